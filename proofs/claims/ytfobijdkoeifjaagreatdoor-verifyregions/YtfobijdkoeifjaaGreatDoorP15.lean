import Derived.Test.YtfobijdkoeifjaaGreatDoorP8
import Derived.Test.YtfobijdkoeifjaaGreatDoorP12
import Derived.Test.YtfobijdkoeifjaaGreatDoorP13
set_option maxRecDepth 100000
set_option maxHeartbeats 32000000
namespace Go.Proofs.YtfobijdkoeifjaaGreatDoor
section
open Go Go.RowKit
section
variable {P:Program} {ops:Array Oper} {Q:Exit→Act→World→Prop}
theorem zi5 {A:Type}{s:Sem A}{k:A→Sem Next}{w w':World}{n:Next}(hk:∀a u u',(k a).run P u=.ok n u'→∃v,n=.value v)(hr:(do k (←s):Sem Next).run P w=.ok n w'):∃u,n=.value u:=by
 simp only[Sem.run_bind] at hr;cases hq:s.run P w with
 | ok a w2=>rw[hq] at hr;simp only[Result.andThen_ok] at hr;exact hk _ _ _ hr
 | halt x w2=>rw[hq] at hr;simp[Result.andThen] at hr
def ze1 (o:Oper):Bool:=match o.op with
 | .load .. | .fieldAddr .. | .indexAddr .. | .extract .. | .move .. | .binOp .. | .convert .. | .build .. | .slice .. | .nilCheck .. | .unOp .. | .pick .. | .field ..=>true
 | _=>false
theorem zfv {o:Oper}(h:ze1 o=true)(ρ:Operand→Value)(w w':World)(n:Next)(hr:(execOp ρ o).run P w=.ok n w'):∃u,n=.value u:=by
 cases ho:o.op
 case load=>unfold execOp at hr;rw[ho] at hr;exact zcz hr
 case fieldAddr=>unfold execOp at hr;rw[ho] at hr;exact zcz hr
 case indexAddr=>unfold execOp at hr;rw[ho] at hr;exact zcz hr
 case extract=>unfold execOp at hr;rw[ho] at hr;exact zcz hr
 case move=>unfold execOp at hr;rw[ho] at hr;exact⟨_,(Result.ok.inj hr).1.symm⟩
 case binOp=>unfold execOp at hr;rw[ho] at hr;exact zcz hr
 case convert=>unfold execOp at hr;rw[ho] at hr;exact zcz hr
 case build=>unfold execOp at hr;rw[ho] at hr;exact zcz hr
 case slice=>unfold execOp at hr;rw[ho] at hr;exact zcz hr
 case unOp=>unfold execOp at hr;rw[ho] at hr;exact zcz hr
 case field=>unfold execOp at hr;rw[ho] at hr;exact zcz hr
 case pick c x y =>
  unfold execOp at hr;rw[ho] at hr;simp only[Sem.run_bind] at hr;cases hq:(asBool (ρ c)).run P w with
  | ok v w2=>rw[hq] at hr;simp only[Result.andThen_ok,Sem.run_pure] at hr;exact⟨_,(Result.ok.inj hr).1.symm⟩
  | halt x w2=>rw[hq] at hr;simp[Result.andThen] at hr
 case nilCheck x =>
  unfold execOp at hr;rw[ho] at hr;simp only at hr;split at hr
  ·cases hr
  ·cases hr
  ·cases hr
  ·split at hr
   ·cases hr
   ·refine zi5 (fun a u u' h1=>?_) hr;refine zi5 (fun b v v' h2=>?_) h1;split at h2
    ·refine zi5 (fun c x x' h3=>?_) h2;exact⟨_,(Result.ok.inj h3).1.symm⟩
    ·exact⟨_,(Result.ok.inj h2).1.symm⟩
   ·exact⟨_,(Result.ok.inj hr).1.symm⟩
  ·exact⟨_,(Result.ok.inj hr).1.symm⟩
 all_goals (unfold ze1 at h;rw[ho] at h;cases h)
theorem zhk {S:World→Prop}{o:Oper}{a:Act}{K:Act→Prop}(hr:ze1 o=true)(h:if Region.wanted o (yielded ops a.tmps) then o.quiet P a S K else K (a.put o.dst undef)):∃v,YieldsIf P ops S o v a∧K (a.put o.dst v):=by
 by_cases hw:Region.wanted o (yielded ops a.tmps)=true
 ·rw[if_pos hw] at h;obtain⟨v,h1,h2⟩:=h;refine⟨v,Or.inl ⟨hw,fun w hS=>?_⟩,h2⟩;have h3:=h1 w hS;unfold Oper.quietAt at h3;cases hq:(execOp a.eval o).run P w with
  | ok n w' =>
   obtain⟨u,rfl⟩:=zfv hr _ _ _ _ hq;rw[hq] at h3;simp only[Oper.quietUpon] at h3;rw[h3.1,h3.2]
  | halt x w'=>rw[hq] at h3;simp only[Oper.quietUpon] at h3
 ·rw[if_neg hw] at h;exact⟨undef,Or.inr ⟨by simpa using hw,rfl⟩,h⟩
def lexQ (ops:Array Oper):List Nat→List Oper→Array Bool→Bool
 | [],[],_=>true
 | i :: js,o :: l,listed=>ze1 o&&(Region.ready .any ops listed).contains i&&Region.free .any ops listed i&&lexQ ops js l (listed.setIfInBounds i true)
 | _,_,_=>false
theorem zet {S:World→Prop}{K:Act→Prop}{rest:Nat}{w:World}(hs:Region.noSelect ops=true)(hQ:∀c a d v w,Q (.panic c) (Act.put a d v) w→Q (.panic c) a w)(hS:S w):∀(js:List Nat) (l:List Oper) (listed:Array Bool) (a:Act),(∀j,j<l.length→∃i,js[j]?=some i∧ops[i]?=l[j]?) →
  lexQ ops js l listed=true→wpQuiet P ops S K l a→(∀a',K a'→wpAnyH P .any ops Q S rest (zbn js listed) a' w)→wpAnyH P .any ops Q S (js.length+rest) listed a w
 | [],[],_,_,_,_,h,hK=>by simpa [zbn] using hK _ h
 | [],_ :: _,_,_,_,hB,_,_=>by simp[lexQ] at hB
 | _ :: _,[],_,_,_,hB,_,_=>by simp[lexQ] at hB
 | i :: js,o :: l,listed,a,hl,hB,h,hK=>by
  have h0:ops[i]?=some o:=by
   obtain⟨i',h1,h2⟩:=hl 0 (by simp);have:i=i':=by simpa using h1
   subst this
   simpa using h2
  simp only[lexQ,Bool.and_eq_true] at hB;obtain⟨⟨⟨hr,hc⟩,hf⟩,hB'⟩:=hB;have h':if Region.wanted o (yielded ops a.tmps) then o.quiet P a S (wpQuiet P ops S K l) else wpQuiet P ops S K l (a.put o.dst undef):=h
  obtain⟨v,hy,hk⟩:=zhk (ops:=ops) hr h';rw[show (i :: js).length+rest=(js.length+rest)+1 by simp;omega]
  exact wpAnyH_take h0 hs hf hc (fun c a w=>hQ c a _ _ w) hy hS (zet hs hQ hS js l _ _ (fun j hj=>by
   obtain⟨i',h1,h2⟩:=hl (j+1) (by simp;omega)
   exact⟨i',by simpa using h1,by simpa using h2⟩) hB' hk hK)
theorem zjd {id:Nat}{a:Act}{w:World}{l:List Oper}(S:World→Prop)(js:List Nat)(rest:Nat)(hm:P.follows .mixedOrders=true)(hlen:l.length=js.length+rest)(hB:(Region.noSelect l.toArray&&lexQ l.toArray js (js.filterMap (l[·]?)) (Array.replicate l.length false))=true)(hj:∀j,j<(js.filterMap (l[·]?)).length→∃i,js[j]?=some i∧l.toArray[i]?=(js.filterMap (l[·]?))[j]?)
  (hQ:∀c a d v w,Q (.panic c) (Act.put a d v) w→Q (.panic c) a w) (hS:S w.drew)
  (h:wpQuiet P l.toArray (fun u=>∃x:Wd S,u=x.w) (fun a'=>wpAnyH P .any l.toArray Q S rest (zbn js (Array.replicate l.length false)) a' w.drew) (js.filterMap (l[·]?)) a):(Code.region id l.toArray true).wp P Q a w:=by
 simp only[Bool.and_eq_true] at hB;refine wp_region_held_drew (S:=S) hm hS fun hS=>?_;have e3:Array.replicate l.toArray.size false=Array.replicate l.length false:=by simp
 have e2:l.toArray.size=js.length+rest:=by simpa using hlen
 have eS:(fun u:World=>∃x:Wd S,u=x.w)=S:=by
  funext u;apply propext
  exact⟨fun ⟨x,hx⟩=>hx ▸ x.2,fun h=>⟨⟨u,h⟩,rfl⟩⟩
 rw[eS] at h;rw[e3,e2];exact zet hB.1 hQ hS js _ _ a hj hB.2 h (fun a' h=>h)
end
theorem zam {P:Program}{Q:Exit→Act→World→Prop}{id:Nat}{a:Act}{w:World}{l:List Oper}(S:World→Prop)(js:List Nat)(rest:Nat)(hm:P.follows .mixedOrders=true)(hlen:l.length=js.length+rest)(hB:(Region.noSelect l.toArray&&lexQ l.toArray js (js.filterMap (l[·]?)) (Array.replicate l.length false))=true)(hj:∀j,j<(js.filterMap (l[·]?)).length→∃i,js[j]?=some i∧l.toArray[i]?=(js.filterMap (l[·]?))[j]?)
  (hS:S w.drew)
  (h:wpQuiet P l.toArray (fun u=>∃x:Wd S,u=x.w) (fun a'=>wpAnyH P .any l.toArray (zfy Q) S rest (zbn js (Array.replicate l.length false)) a' w.drew) (js.filterMap (l[·]?)) a):(Code.region id l.toArray true).wp P Q a w :=
 Code.wp_mono (fun _ _ _ h=>h.2) (zjd S js rest hm hlen hB hj (fun c _ _ _ _ h=>absurd rfl (h.1 c)) hS h)
theorem za8 {l:List Oper}{js:List Nat}(h:(js.all fun i=>decide (i<l.length))=true):∀j,j<(js.filterMap (l[·]?)).length→∃i,js[j]?=some i∧l.toArray[i]?=(js.filterMap (l[·]?))[j]?:=by
 induction js with
 | nil=>intro j hj;simp at hj
 | cons i js ih =>
  simp only[List.all_cons,Bool.and_eq_true,decide_eq_true_eq] at h;have e:l[i]?=some l[i]:=List.getElem?_eq_getElem h.1;intro j hj;cases j with
  | zero=>exact⟨i,rfl,by simp[e]⟩
  | succ j =>
   rw[List.filterMap_cons,e] at hj;obtain⟨i',h1,h2⟩:=ih h.2 j (by simpa using hj);refine⟨i',by simpa using h1,?_⟩;rw[h2,List.filterMap_cons,e];simp
theorem za9 {P:Program}{l:List Oper}{Q:Exit→Act→World→Prop}{S:World→Prop}(js:List Nat){rest fuel:Nat}{listed:Array Bool}{a:Act}{w:World}(hf:fuel=js.length+rest)(hj:(js.all fun i=>decide (i<l.length))=true)(hB:(Region.noSelect l.toArray&&lexQ l.toArray js (js.filterMap (l[·]?)) listed)=true)(hS:S w)
  (h:wpQuiet P l.toArray (fun u=>∃x:Wd S,u=x.w) (fun a'=>wpAnyH P .any l.toArray (zfy Q) S rest (zbn js listed) a' w) (js.filterMap (l[·]?)) a):wpAnyH P .any l.toArray (zfy Q) S fuel listed a w:=by
 simp only[Bool.and_eq_true] at hB;have eS:(fun u:World=>∃x:Wd S,u=x.w)=S:=by
  funext u;apply propext
  exact⟨fun ⟨x,hx⟩=>hx ▸ x.2,fun h=>⟨⟨u,h⟩,rfl⟩⟩
 rw[eS] at h;rw[hf];exact zet hB.1 (fun c _ _ _ _ h=>absurd rfl (h.1 c)) hS js _ _ a (za8 hj) hB.2 h (fun a' h=>h)
section
variable {P:Program} {ops:Array Oper} {Q:Exit→Act→World→Prop} {md:Region.Mode} {S:World→Prop} {m:Nat}
def isLen (o:Oper):Bool:=match o.op with
 | .call c=>(match c.callee with | .builtin .len=>true | _=>false)
 | _=>false
def zih (o:Oper):Bool:=ze1 o||isLen o
theorem zn6 {o:Oper}(h:zih o=true)(ρ:Operand→Value)(w w':World)(n:Next)(hr:(execOp ρ o).run P w=.ok n w'):∃u,n=.value u:=by
 unfold zih at h;rw[Bool.or_eq_true] at h;rcases h with h | h
 ·exact zfv h ρ w w' n hr
 ·unfold isLen at h;split at h
  ·rename_i c ho
   split at h
   ·rename_i hc
    unfold execOp at hr;simp only[ho,resolve,hc,invoke,builtin,Sem.run_bind,Sem.run_pure,Result.andThen_ok] at hr;cases hq:(Builtin.len_ c.argTypes o.type (c.args.map ρ)).run P w with
    | ok v w2=>rw[hq] at hr;simp only[Result.andThen_ok] at hr;exact⟨v,(Result.ok.inj hr).1.symm⟩
    | halt x w2=>rw[hq] at hr;simp[Result.andThen] at hr
   ·cases h
  ·cases h
theorem zhg {S:World→Prop}{o:Oper}{a:Act}{K:Act→Prop}(hr:zih o=true)(h:if Region.wanted o (yielded ops a.tmps) then o.quiet P a S K else K (a.put o.dst undef)):∃v,YieldsIf P ops S o v a∧K (a.put o.dst v):=by
 by_cases hw:Region.wanted o (yielded ops a.tmps)=true
 ·rw[if_pos hw] at h;obtain⟨v,h1,h2⟩:=h;refine⟨v,Or.inl ⟨hw,fun w hS=>?_⟩,h2⟩;have h3:=h1 w hS;unfold Oper.quietAt at h3;cases hq:(execOp a.eval o).run P w with
  | ok n w' =>
   obtain⟨u,rfl⟩:=zn6 hr _ _ _ _ hq;rw[hq] at h3;simp only[Oper.quietUpon] at h3;rw[h3.1,h3.2]
  | halt x w'=>rw[hq] at h3;simp only[Oper.quietUpon] at h3
 ·rw[if_neg hw] at h;exact⟨undef,Or.inr ⟨by simpa using hw,rfl⟩,h⟩
def lexG (ops:Array Oper):List Nat→List Oper→Array Bool→Bool
 | [],[],_=>true
 | i :: js,o :: l,listed=>zih o&&(Region.ready .any ops listed).contains i&&Region.free .any ops listed i&&lexG ops js l (listed.setIfInBounds i true)
 | _,_,_=>false
def behB (md:Region.Mode)(ops:Array Oper)(m:Nat):Bool:=(List.range ops.size).all fun t=>decide (t≤m)||(List.range t).any fun s=>decide (m≤s)&&Region.waitsFor md ops t s
theorem zvc (hg:behB md ops m=true){listed:Array Bool}(hS:Shut md ops listed):∀s,m≤s→s<ops.size→listed.getD s false=true→listed.getD m false=true:=by
 simp only[behB,List.all_eq_true,List.mem_range,Bool.or_eq_true,decide_eq_true_eq,List.any_eq_true,Bool.and_eq_true] at hg;intro s
 induction s using Nat.strongRecOn with
 | ind s ih =>
  intro h1 h2 h3;by_cases e:s=m
  ·rw[←e];exact h3
  ·rcases hg s h2 with h | ⟨x,hx,h4,h5⟩
   ·omega
   ·obtain⟨oj,hj,e,he,hb,hon⟩:=Region.waitsFor_spec h5;have:=hS s oj h3 hj e he hb;rw[hon] at this;exact ih x hx h4 (by omega) this
theorem zuq (hs:Region.sinkB md ops m=true)(hg:behB md ops m=true){listed:Array Bool}(hS:Shut md ops listed){j:Nat}{oj:Oper}(hoj:ops[j]?=some oj)(hall:∀e ∈ oj.after,Region.binds md e=true→listed.getD e.on false=true)(hj:¬j<m):∀i,i<m→listed.getD i false=true:=by
 intro i hi;have hlt:=(Array.getElem?_eq_some_iff.1 hoj).1;have hmlt:m<ops.size:=by omega
 have hom:ops[m]?=some ops[m]:=Array.getElem?_eq_getElem hmlt;have key:∀e ∈ ops[m].after,Region.binds md e=true→listed.getD e.on false=true:=by
  by_cases e:j=m
  ·subst e;rw[hom] at hoj;cases hoj
   exact hall
  ·have hg':=hg;simp only[behB,List.all_eq_true,List.mem_range,Bool.or_eq_true,decide_eq_true_eq,List.any_eq_true,Bool.and_eq_true] at hg';rcases hg' j hlt with h | ⟨x,hx,h4,h5⟩
   ·omega
   ·obtain⟨oj',hj',e,he,hb,hon⟩:=Region.waitsFor_spec h5;rw[hoj] at hj';cases hj'
    have h1:=hall e he hb;rw[hon] at h1;exact hS m ops[m] (zvc hg hS x h4 (by omega) h1) hom
 exact znk hs hS hom key (m - 1 - i) i (by omega)
def zcm (P:Program)(md:Region.Mode)(ops:Array Oper)(Q:Exit→Act→World→Prop)(S:World→Prop)(m:Nat):Nat→Array Bool→Act→World→Prop
 | 0,listed,a,w=>Region.ready md ops listed=[]∧Q .normal a w
 | fuel+1,listed,a,w =>
  (Region.ready md ops listed=[]→Q .normal a w) ∧
  ∀i ∈ Region.ready md ops listed,wpOp P ops Q i (fun a' w'=>(i<m→S w')∧zcm P md ops Q S m fuel (listed.setIfInBounds i true) a' w') a w
theorem zg1:∀(fuel:Nat) (listed:Array Bool) (a:Act) (w:World),(∀i,i<m→listed.getD i true=true)→wpAny P md ops Q fuel listed a w→zcm P md ops Q S m fuel listed a w
 | 0,_,_,_,_,h=>h
 | fuel+1,listed,_,_,hl,h=>by
  refine⟨h.1,fun i hi=>?_⟩;have hn:¬i<m:=fun him=>by
   have h1:=(mem_ready.1 hi).1;rw[hl i him] at h1;cases h1
  refine wpOp_mono (fun a' w' h'=>⟨fun him=>absurd him hn,zg1 fuel _ a' w' (fun k hk=>?_) h'⟩) (h.2 i hi);rw[getD_set_ne true (by omega)];exact hl k hk
theorem zjy:∀(fuel:Nat) (listed:Array Bool) (a:Act) (w:World),zcm P md ops Q S m fuel listed a w→wpAny P md ops Q fuel listed a w
 | 0,_,_,_,h=>h
 | fuel+1,_,_,_,h=>⟨h.1,fun i hi=>wpOp_mono (fun a' w' h'=>zjy fuel _ a' w' h'.2) (h.2 i hi)⟩
theorem zmo {i:Nat}{oi:Oper}{v:Value}(hi:ops[i]?=some oi)(hsel:∀(j:Nat) (o:Oper) cs b,ops[j]?=some o→o.op≠.select cs b)
  (hQ:∀c a w,Q (.panic c) (a.put oi.dst v) w→Q (.panic c) a w) (hsk:Region.sinkB md ops m=true) (hgt:behB md ops m=true) (him:i<m) :
  ∀(fuel:Nat) (listed:Array Bool) (a:Act) (w:World),Shut md ops listed →
   (∀j oj,ops[j]?=some oj→j≠i→listed.getD j true=false→(∀e ∈ oj.after,Region.binds md e=true→e.on≠i)→oi.apart ops oj=true) →
   i ∈ Region.ready md ops listed→YieldsIf P ops S oi v a→S w →
   zcm P md ops Q S m fuel (listed.setIfInBounds i true) (a.put oi.dst v) w→zcm P md ops Q S m (fuel+1) listed a w:=by
 intro fuel
 induction fuel with
 | zero =>
  intro listed a w _ _ hr hy hS H;refine⟨fun h=>(by rw[h] at hr;cases hr),fun j hj=>?_⟩
  by_cases hji:j=i
  ·subst hji;exact hy.wpOp hi hS ⟨fun _=>hS,H⟩
  ·have:=ready_mono hj hji;rw[H.1] at this;cases this
 | succ fuel ih =>
  intro listed a w hShut hfree hr hy hS H;refine⟨fun h=>(by rw[h] at hr;cases hr),fun j hj=>?_⟩
  by_cases hji:j=i
  ·subst hji;exact hy.wpOp hi hS ⟨fun _=>hS,H⟩
  ·have h1:=H.2 j (ready_mono hj hji);obtain⟨hjun,oj,hoj,hall⟩:=mem_ready.1 hj;have hjm:j<m:=by
    apply Classical.byContradiction
    intro hge;have hun:=(mem_ready.1 hr).1;have hin:listed.getD i false=true:=zuq hsk hgt hShut hoj hall hge i him;rcases Nat.lt_or_ge i listed.size with h' | h'
    ·simp[h'] at hin hun;rw[hin] at hun;cases hun
    ·simp[Array.getElem?_eq_none h'] at hin
   have hnot:∀e ∈ oj.after,Region.binds md e=true→e.on≠i:=fun e he hb heq=>by
    have h1:=hall e he hb;have h0:=(mem_ready.1 hr).1;rw[heq] at h1;rcases Nat.lt_or_ge i listed.size with h' | h'
    ·simp[h'] at h0 h1;rw[h0] at h1;cases h1
    ·simp[Array.getElem?_eq_none h'] at h1
   have h2:=wpOp_putIf hoj (hfree j oj hoj hji hjun hnot) (fun cs b=>hsel i oi cs b hi) (fun cs b=>hsel j oj cs b hoj) hQ hy h1;have hfree':∀k ok,ops[k]?=some ok→k≠i→(listed.setIfInBounds j true).getD k true=false →
     (∀e ∈ ok.after,Region.binds md e=true→e.on≠i)→oi.apart ops ok=true:=fun k ok hk hki hun hno=>by
    refine hfree k ok hk hki ?_ hno;by_cases hjk:j=k
    ·subst hjk;exact hjun
    ·rw[getD_set_ne true hjk] at hun;exact hun
   refine wpOp_mono (fun a' w' h3=>⟨fun _=>h3.2.1 hjm,ih (listed.setIfInBounds j true) a' w' (hShut.put hj) hfree' (ready_mono hr (Ne.symm hji)) h3.1 (h3.2.1 hjm) ?_⟩) h2;rw[Array.setIfInBounds_comm _ _ hji];exact h3.2.2
def AllReadyG (P:Program)(md:Region.Mode)(ops:Array Oper)(Q:Exit→Act→World→Prop)(S:World→Prop)(m:Nat)(fuel:Nat)(listed:Array Bool)(a:Act)(w:World)(rs:List Nat):Prop :=
 ∀i ∈ rs,wpOp P ops Q i (fun a' w'=>(i<m→S w')∧zcm P md ops Q S m fuel (listed.setIfInBounds i true) a' w') a w
theorem AllReadyG.nil {fuel:Nat}{listed:Array Bool}{a:Act}{w:World}:AllReadyG P md ops Q S m fuel listed a w []:=fun _ h=>by cases h
theorem AllReadyG.cons {fuel:Nat}{listed:Array Bool}{a:Act}{w:World}{i:Nat}{o:Oper}{rs:List Nat}(ho:ops[i]?=some o)
  (h:∀K':Act→World→Prop,Hid (∀a w,(i<m→S w)→zcm P md ops Q S m fuel (listed.setIfInBounds i true) a w→K' a w)→if Region.wanted o (yielded ops a.tmps)=true then Oper.wp P o a w K' Q else K' (a.put o.dst undef) w)
  (hs:AllReadyG P md ops Q S m fuel listed a w rs):AllReadyG P md ops Q S m fuel listed a w (i :: rs):=fun j hj=>by
 rcases List.mem_cons.1 hj with rfl | hj
 ·exact wpOp_step ho (fun K' hK=>h K' (fun a w hS hW=>hK a w ⟨hS,hW⟩))
 ·exact hs j hj
theorem zaq {rs:List Nat}{fuel:Nat}{listed:Array Bool}{a:Act}{w:World}(hr:Region.ready md ops listed=rs)(hne:rs≠[])
  (h:AllReadyG P md ops Q S m fuel listed a w rs):zcm P md ops Q S m (fuel+1) listed a w:=⟨fun h0=>absurd (hr.symm.trans h0) hne,fun i hi=>h i (by rw[←hr];exact hi)⟩
theorem zek {listed:Array Bool}{a:Act}{w:World}(hr:Region.ready md ops listed=[])(h:Q .normal a w):∀fuel,zcm P md ops Q S m fuel listed a w
 | 0=>⟨hr,h⟩
 | _+1=>⟨fun _=>h,fun i hi=>by rw[hr] at hi;cases hi⟩
theorem zgx {K:Act→Prop}{rest:Nat}{w:World}(hs:Region.noSelect ops=true)(hQ:∀c a d v w,Q (.panic c) (Act.put a d v) w→Q (.panic c) a w)(hsk:Region.sinkB .any ops m=true)(hgt:behB .any ops m=true)(hS:S w):∀(js:List Nat) (l:List Oper) (listed:Array Bool) (a:Act),Shut .any ops listed→(js.all fun i=>decide (i<m))=true→(∀j,j<l.length→∃i,js[j]?=some i∧ops[i]?=l[j]?) →
  lexG ops js l listed=true→wpQuiet P ops S K l a→(∀a',K a'→zcm P .any ops Q S m rest (zbn js listed) a' w)→zcm P .any ops Q S m (js.length+rest) listed a w
 | [],[],_,_,_,_,_,_,h,hK=>by simpa [zbn] using hK _ h
 | [],_ :: _,_,_,_,_,_,hB,_,_=>by simp[lexG] at hB
 | _ :: _,[],_,_,_,_,_,hB,_,_=>by simp[lexG] at hB
 | i :: js,o :: l,listed,a,hSh,hjm,hl,hB,h,hK=>by
  have h0:ops[i]?=some o:=by
   obtain⟨i',h1,h2⟩:=hl 0 (by simp);have:i=i':=by simpa using h1
   subst this
   simpa using h2
  simp only[lexG,Bool.and_eq_true] at hB;obtain⟨⟨⟨hr,hc⟩,hf⟩,hB'⟩:=hB;simp only[List.all_cons,Bool.and_eq_true,decide_eq_true_eq] at hjm;have h':if Region.wanted o (yielded ops a.tmps) then o.quiet P a S (wpQuiet P ops S K l) else wpQuiet P ops S K l (a.put o.dst undef):=h
  obtain⟨v,hy,hk⟩:=zhg (ops:=ops) hr h';rw[show (i :: js).length+rest=(js.length+rest)+1 by simp;omega]
  have hmem:i ∈ Region.ready .any ops listed:=by simpa using hc
  exact zmo h0 (Region.noSelect_spec hs) (fun c a w=>hQ c a _ _ w) hsk hgt hjm.1 _ listed a w hSh (Region.free_spec h0 hf) hmem hy hS (zgx hs hQ hsk hgt hS js l _ _ (hSh.put hmem) hjm.2 (fun j hj=>by
   obtain⟨i',h1,h2⟩:=hl (j+1) (by simp;omega)
   exact⟨i',by simpa using h1,by simpa using h2⟩) hB' hk hK)
end
theorem zbt {P:Program}{Q:Exit→Act→World→Prop}{id:Nat}{a:Act}{w:World}{l:List Oper}(S:World→Prop)(m:Nat)(js:List Nat)(rest:Nat)(hm:P.follows .mixedOrders=true)(hlen:l.length=js.length+rest)(hB:(Region.noSelect l.toArray&&lexG l.toArray js (js.filterMap (l[·]?)) (Array.replicate l.length false)&&(Region.sinkB .any l.toArray m&&behB .any l.toArray m)&&(js.all fun i=>decide (i<m))&&(js.all fun i=>decide (i<l.length)))=true)
  (hS:S w.drew)
  (h:wpQuiet P l.toArray (fun u=>∃x:Wd S,u=x.w) (fun a'=>zcm P .any l.toArray (zfy Q) S m rest (zbn js (Array.replicate l.length false)) a' w.drew) (js.filterMap (l[·]?)) a):(Code.region id l.toArray true).wp P Q a w:=by
 refine Code.wp_mono (fun _ _ _ h=>h.2) (Q:=zfy Q) ?_;simp only[Bool.and_eq_true] at hB;obtain⟨⟨⟨⟨h1,h2⟩,h3⟩,h4⟩,h5⟩:=hB;have h3:=Bool.and_eq_true_iff.2 h3;have e3:Array.replicate l.toArray.size false=Array.replicate l.length false:=by simp
 have e2:l.toArray.size=js.length+rest:=by simpa using hlen
 have eS:(fun u:World=>∃x:Wd S,u=x.w)=S:=by
  funext u;apply propext
  exact⟨fun ⟨x,hx⟩=>hx ▸ x.2,fun h=>⟨⟨u,h⟩,rfl⟩⟩
 rw[eS] at h;refine wp_region_any hm (zjy _ _ _ _ (S:=S) (m:=m) ?_);rw[e3,e2];exact zgx h1 (fun c _ _ _ _ h=>absurd rfl (h.1 c)) (Bool.and_eq_true_iff.1 h3).1 (Bool.and_eq_true_iff.1 h3).2 hS js _ _ a (by intro k o hk;simp[Array.getElem?_replicate] at hk;split at hk <;> simp_all) h4 (za8 h5) h2 h (fun a' h=>h)
theorem zcg {P:Program}{md:Region.Mode}{ops:Array Oper}{Q:Exit→Act→World→Prop}{S:World→Prop}{m fuel:Nat}{listed:Array Bool}{a:Act}{w:World}(hl:((List.range m).all fun i=>listed.getD i true)=true)(h:wpAnyH P md ops Q (fun _=>True) fuel listed a w):zcm P md ops Q S m fuel listed a w :=
 zg1 _ _ _ _ (fun i hi=>List.all_eq_true.1 hl i (List.mem_range.2 hi)) (wpAny_of_held _ _ _ _ h)
end
section
def Ty.Nd:Ty→Prop
 | .dm=>False
 | .mk _ _ _ _ _ _ _ len _ ps=>∀i,i<len→Ty.Nd (ps i)
theorem Ty.At.nd {w:World}:∀{t:Ty},t.At w→t.Nd
 | .dm,h=>h
 | .mk _ _ _ _ _ _ _ _ _ _,h=>fun i hi=>Ty.At.nd (h.2.2 i hi).2
theorem zgm {N:Nat}:∀s t:Ty,s.Nd→t.Nd→s.same t=true→(∀d,s.fm N d=t.fm N d)∧s.nodes=t.nodes:=by
 intro s
 induction s with
 | dm=>intro t h;exact h.elim
 | mk k l hh e ao b o len cap ps ih =>
  intro t hs ht h;rcases t with _ | ⟨tk,tl,th,te,tao,tb,to',tlen,tcap,tps⟩
  ·exact ht.elim
  rw[za7] at h;obtain⟨⟨h1,h2,h3,h4,h5⟩,h6⟩:=h;have h1':k=tk:=h1;have h2':l=tl:=h2;have h3':hh=th:=h3;have h4':e=te:=h4;have h5':len=tlen:=h5;subst h1' h2' h3' h4' h5';have sub:∀i,i<len→(∀d,(ps i).fm N d=(tps i).fm N d)∧(ps i).nodes=(tps i).nodes:=fun i hi=>ih i (tps i) (hs i hi) (ht i hi) (h6 i hi);refine⟨fun d=>?_,?_⟩
  ·rw[zd1,zd1]
   congr 1
   rw[decide_eq_decide];exact⟨fun hh i hi=>by rw[← (sub i hi).1];exact hh i hi,fun hh i hi=>by rw[(sub i hi).1];exact hh i hi⟩
  ·show 1+zaw (fun i=>(ps i).nodes) len=1+zaw (fun i=>(tps i).nodes) len
   rw[zhw len (fun i hi=>(sub i hi).2)]
end
section
open Go Go.RowKit
theorem zqq {n:Strs}{g:Grid}{u r t:Ty}(hu:u.Nd)(hr:r.Nd)(h:u.same r=true):belB n g u t=belB n g r t:=by
 have e:=zgm (N:=n.len) u r hu hr h;have eo:u.ok n.len=r.ok n.len:=by unfold Ty.ok;rw[e.1,e.2]
 unfold belB;rw[eo];cases hF:zae n g
 ·rfl
 cases hr':r.ok n.len
 ·rfl
 cases ht:t.ok n.len
 ·rfl
 have P:=po_of hF;have fu:Fd n.len u:=zmk (eo.trans hr');have fr:Fd n.len r:=zmk hr';have ft:Fd n.len t:=zmk ht;have sb:=ztu P u r fu fr h;have key:u.bel g.B true t=true↔r.bel g.B true t=true:=⟨fun x=>(zlu P r u t fr fu ft).1 sb.2 x,fun x=>(zlu P u r t fu fr ft).1 sb.1 x⟩;rw[Bool.true_and,Bool.true_and];exact Bool.eq_iff_iff.2 key
theorem zv9 {j:Int}:∀{t:Ty},t.Nd→(t.setL j).Nd
 | .dm,h=>h.elim
 | .mk _ _ _ _ _ _ _ _ _ _,h=>h
theorem zv1 (k l:Int):(zab k l).Nd:=(za3 k l default).nd
theorem zct {n:Strs}{g:Grid}{t:Ty}{a:Int}(h:t.Nd):(zal n g t a).Nd:=by
 unfold zal;split
 ·exact zv9 h
 ·exact zv1 _ _
theorem zpw {j:Int}:∀{s t:Ty},s.Nd→t.Nd→s.same t=true→(s.setL j).same (t.setL j)=true
 | .dm,_,h,_,_=>h.elim
 | _,.dm,_,h,_=>h.elim
 | .mk _ _ _ _ _ _ _ _ _ _,.mk _ _ _ _ _ _ _ _ _ _,_,_,h=>by
  rw[za7] at h ⊢;exact⟨⟨h.1.1,rfl,h.1.2.2⟩,h.2⟩
theorem zbh {n:Strs}{g:Grid}{u r:Ty}{a:Int}(hu:u.Nd)(hr:r.Nd)(h:u.same r=true):(zal n g u a).same (zal n g r a)=true:=by
 have e:=zgm (N:=n.len) u r hu hr h;have eo:okB n g u=okB n g r:=by unfold okB Ty.ok;rw[e.1,e.2]
 have el:u.l=r.l:=((za7 u r).1 h).1.2.1;unfold zal;rw[eo,el];split
 ·exact zpw hu hr h
 ·exact zaj _
def zel (D:Nat)(r:Ty)(w:World)(e:Ending)(w':World):Prop:=∃u:Ty,e=.returned (.agg u.vs.toArray)∧u.At w'∧u.Blk (fun b=>b<D∨w.heap.size≤b)∧u.same r=true∧Below w.heap.size w w'
theorem Ty.vs_one (t:Ty):t.vs.all (·.oneCell')=true:=by simp[Ty.vs,Value.oneCell']
def zTv:List Value:=[.int .i64 0,.int .i64 0,.slice none 0 0,.int .i64 0,.int .i64 0]
theorem zq4 (D:Nat)(n:Strs)(g:Grid)(t:Ty)(a:Int)(w:World)(hn:n.At w)(hg:g.At w)(ht:t.At w) :
  Calls Tryz.prog 21 #[.agg #[.slice n.ao n.len n.cap,.slice g.ao g.len g.cap],.agg t.vs.toArray,.int .i64 a] w (zel D (zal n g t a) w) :=
 (zlb n g t a w hn hg ht).mono fun _ _ ⟨u,h1,h2,h3,h4,h5⟩=>⟨u,h1,h2,h3.mono (fun _ h=>Or.inr h),h4,h5⟩
theorem Ty.At.wrote {w w':World}{B D m:Nat}{c:List Value}{t:TypeId}{u:Ty}(h:u.At w)(hk:u.Blk (fun b=>b<D∨m≤b))(W:WroteB w w' B c t)(h1:D≤B)(h2:B<m):u.At w' :=
 Ty.At.agree (Q:=fun b=>b<D∨m≤b) (fun b hb=>W.other b (by omega)) h hk
section
variable {P:Program} {ops:Array Oper} {Q:Exit→Act→World→Prop} {md:Region.Mode} {S:World→Prop} {m:Nat}
end
section
variable {P:Program} {ops:Array Oper} {Q:Exit→Act→World→Prop}
def zsc (o:Oper):Bool:=match o.op with
 | .call c=>(match c.callee with | .builtin .len=>true | _=>false)
 | _=>false
def zif (o:Oper):Bool:=ze1 o||zsc o
theorem zob {o:Oper}(h:zif o=true)(ρ:Operand→Value)(w w':World)(n:Next)(hr:(execOp ρ o).run P w=.ok n w'):∃u,n=.value u:=by
 unfold zif at h;rw[Bool.or_eq_true] at h;rcases h with h | h
 ·exact zfv h ρ w w' n hr
 ·unfold zsc at h;cases ho:o.op
  case call c =>
   rw[ho] at h;simp only at h;cases hc:c.callee
   case builtin b =>
    rw[hc] at h;cases b
    case len =>
     unfold execOp at hr;rw[ho] at hr;simp only[hc,resolve,invoke,builtin,Sem.run_bind,Sem.run_pure,Result.andThen_ok] at hr;cases hq:Sem.run P (Builtin.len_ c.argTypes o.type (Array.map ρ c.args)) w with
     | ok a w2=>rw[hq] at hr;simp only[Result.andThen_ok] at hr;exact⟨_,(Result.ok.inj hr).1.symm⟩
     | halt x w2=>rw[hq] at hr;simp[Result.andThen] at hr
    all_goals (cases h)
   all_goals (rw[hc] at h;cases h)
  all_goals (rw[ho] at h;cases h)
theorem zg6 {S:World→Prop}{o:Oper}{a:Act}{K:Act→Prop}(hr:zif o=true)(h:if Region.wanted o (yielded ops a.tmps) then o.quiet P a S K else K (a.put o.dst undef)):∃v,YieldsIf P ops S o v a∧K (a.put o.dst v):=by
 by_cases hw:Region.wanted o (yielded ops a.tmps)=true
 ·rw[if_pos hw] at h;obtain⟨v,h1,h2⟩:=h;refine⟨v,Or.inl ⟨hw,fun w hS=>?_⟩,h2⟩;have h3:=h1 w hS;unfold Oper.quietAt at h3;cases hq:(execOp a.eval o).run P w with
  | ok n w' =>
   obtain⟨u,rfl⟩:=zob hr _ _ _ _ hq;rw[hq] at h3;simp only[Oper.quietUpon] at h3;rw[h3.1,h3.2]
  | halt x w'=>rw[hq] at h3;simp only[Oper.quietUpon] at h3
 ·rw[if_neg hw] at h;exact⟨undef,Or.inr ⟨by simpa using hw,rfl⟩,h⟩
def lexV (ops:Array Oper):List Nat→List Oper→Array Bool→Bool
 | [],[],_=>true
 | i :: js,o :: l,listed=>zif o&&(Region.ready .any ops listed).contains i&&Region.free .any ops listed i&&lexV ops js l (listed.setIfInBounds i true)
 | _,_,_=>false
theorem zgz {S:World→Prop}{K:Act→Prop}{rest:Nat}{w:World}(hs:Region.noSelect ops=true)(hQ:∀c a d v w,Q (.panic c) (Act.put a d v) w→Q (.panic c) a w)(hS:S w):∀(js:List Nat) (l:List Oper) (listed:Array Bool) (a:Act),(∀j,j<l.length→∃i,js[j]?=some i∧ops[i]?=l[j]?) →
  lexV ops js l listed=true→wpQuiet P ops S K l a→(∀a',K a'→wpAnyH P .any ops Q S rest (zbn js listed) a' w)→wpAnyH P .any ops Q S (js.length+rest) listed a w
 | [],[],_,_,_,_,h,hK=>by simpa [zbn] using hK _ h
 | [],_ :: _,_,_,_,hB,_,_=>by simp[lexV] at hB
 | _ :: _,[],_,_,_,hB,_,_=>by simp[lexV] at hB
 | i :: js,o :: l,listed,a,hl,hB,h,hK=>by
  have h0:ops[i]?=some o:=by
   obtain⟨i',h1,h2⟩:=hl 0 (by simp);have:i=i':=by simpa using h1
   subst this
   simpa using h2
  simp only[lexV,Bool.and_eq_true] at hB;obtain⟨⟨⟨hr,hc⟩,hf⟩,hB'⟩:=hB;have h':if Region.wanted o (yielded ops a.tmps) then o.quiet P a S (wpQuiet P ops S K l) else wpQuiet P ops S K l (a.put o.dst undef):=h
  obtain⟨v,hy,hk⟩:=zg6 (ops:=ops) hr h';rw[show (i :: js).length+rest=(js.length+rest)+1 by simp;omega]
  exact wpAnyH_take h0 hs hf hc (fun c a w=>hQ c a _ _ w) hy hS (zgz hs hQ hS js l _ _ (fun j hj=>by
   obtain⟨i',h1,h2⟩:=hl (j+1) (by simp;omega)
   exact⟨i',by simpa using h1,by simpa using h2⟩) hB' hk hK)
theorem zji {id:Nat}{a:Act}{w:World}{l:List Oper}(S:World→Prop)(js:List Nat)(rest:Nat)(hm:P.follows .mixedOrders=true)(hlen:l.length=js.length+rest)(hB:(Region.noSelect l.toArray&&lexV l.toArray js (js.filterMap (l[·]?)) (Array.replicate l.length false))=true)(hj:∀j,j<(js.filterMap (l[·]?)).length→∃i,js[j]?=some i∧l.toArray[i]?=(js.filterMap (l[·]?))[j]?)
  (hQ:∀c a d v w,Q (.panic c) (Act.put a d v) w→Q (.panic c) a w) (hS:S w.drew)
  (h:wpQuiet P l.toArray (fun u=>∃x:Wd S,u=x.w) (fun a'=>wpAnyH P .any l.toArray Q S rest (zbn js (Array.replicate l.length false)) a' w.drew) (js.filterMap (l[·]?)) a):(Code.region id l.toArray true).wp P Q a w:=by
 simp only[Bool.and_eq_true] at hB;refine wp_region_held_drew (S:=S) hm hS fun hS=>?_;have e3:Array.replicate l.toArray.size false=Array.replicate l.length false:=by simp
 have e2:l.toArray.size=js.length+rest:=by simpa using hlen
 have eS:(fun u:World=>∃x:Wd S,u=x.w)=S:=by
  funext u;apply propext
  exact⟨fun ⟨x,hx⟩=>hx ▸ x.2,fun h=>⟨⟨u,h⟩,rfl⟩⟩
 rw[eS] at h;rw[e3,e2];exact zgz hB.1 hQ hS js _ _ a hj hB.2 h (fun a' h=>h)
end
theorem zio {P:Program}{Q:Exit→Act→World→Prop}{id:Nat}{a:Act}{w:World}{l:List Oper}(S:World→Prop)(js:List Nat)(rest:Nat)(hm:P.follows .mixedOrders=true)(hlen:l.length=js.length+rest)(hB:(Region.noSelect l.toArray&&lexV l.toArray js (js.filterMap (l[·]?)) (Array.replicate l.length false))=true)(hj:∀j,j<(js.filterMap (l[·]?)).length→∃i,js[j]?=some i∧l.toArray[i]?=(js.filterMap (l[·]?))[j]?)
  (hS:S w.drew)
  (h:wpQuiet P l.toArray (fun u=>∃x:Wd S,u=x.w) (fun a'=>wpAnyH P .any l.toArray (zfy Q) S rest (zbn js (Array.replicate l.length false)) a' w.drew) (js.filterMap (l[·]?)) a):(Code.region id l.toArray true).wp P Q a w :=
 Code.wp_mono (fun _ _ _ h=>h.2) (zji S js rest hm hlen hB hj (fun c _ _ _ _ h=>absurd rfl (h.1 c)) hS h)
theorem hj_ofV {l:List Oper}{js:List Nat}(h:(js.all fun i=>decide (i<l.length))=true):∀j,j<(js.filterMap (l[·]?)).length→∃i,js[j]?=some i∧l.toArray[i]?=(js.filterMap (l[·]?))[j]?:=by
 induction js with
 | nil=>intro j hj;simp at hj
 | cons i js ih =>
  simp only[List.all_cons,Bool.and_eq_true,decide_eq_true_eq] at h;have e:l[i]?=some l[i]:=List.getElem?_eq_getElem h.1;intro j hj;cases j with
  | zero=>exact⟨i,rfl,by simp[e]⟩
  | succ j =>
   rw[List.filterMap_cons,e] at hj;obtain⟨i',h1,h2⟩:=ih h.2 j (by simpa using hj);refine⟨i',by simpa using h1,?_⟩;rw[h2,List.filterMap_cons,e];simp
end
end Go.Proofs.YtfobijdkoeifjaaGreatDoor
