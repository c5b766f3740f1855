import Derived.Test.YtgioppfoceddfaaGreatP8
import Derived.Deep.RegionHeld3
import Derived.Deep.MidRow
import Derived.Test.YtgioppfoceddfaaGreatP9
import Derived.LaidEql
import Derived.Carry
import Derived.Deep.AppendLies
import Derived.Deep.DeepCutAuto
import Derived.Test.YtgioppfoceddfaaGreatP2
set_option maxRecDepth 100000
set_option maxHeartbeats 32000000
namespace Go.Proofs.YtgioppfoceddfaaGreat
section
open Go Go.RowKit
section
variable {P:Program} {ops:Array Oper} {Q:Exit→Act→World→Prop}
theorem za2 {o:Oper}{a:Act}(hg:o.guard=none):Region.wanted o (yielded ops a.tmps)=true:=by simp[Region.wanted,hg]
structure Three (P:Program)(ops:Array Oper)(m:Nat)(listed:Array Bool)(oc oa oz:Oper)(ty:TypeId)(zs:List Value)(c d:Nat):Prop where
 hoc:ops[m]?=some oc
 hoa:ops[m+1]?=some oa
 hoz:ops[m+2]?=some oz
 gc:oc.guard=none
 ga:oa.guard=none
 gz:oz.guard=none
 dc:oc.dst=some c
 da:oa.dst=some d
 dz:oz.dst=none
 opa:oa.op=.alloc ty
 opz:oz.op=.store ty (.tmp d) (.tmp c)
 r0:Region.ready .any ops listed=[m,m+1]
 r1:Region.ready .any ops (listed.setIfInBounds m true)=[m+1]
 r2:Region.ready .any ops (listed.setIfInBounds (m+1) true)=[m]
 r3:Region.ready .any ops ((listed.setIfInBounds m true).setIfInBounds (m+1) true)=[m+2]
 r4:Region.ready .any ops (((listed.setIfInBounds m true).setIfInBounds (m+1) true).setIfInBounds (m+2) true)=[]
 hi:(P.info? ty).map (·.size)=some zs.length
 hal:∀u:World,(Instr.alloc ty true (.tuple #[])).run P u=.ok (.pointer (some ⟨u.heap.size,0,none⟩)) (u.alloc (.cells zs.toArray ty))
theorem znu {u:World}{B:Nat}{zs:List Value}{ty:TypeId}(h:u.heap[B]?=some (.cells zs.toArray ty (0,0))):u.there B 0 zs.length:=fun j hj=>by
 refine⟨?_,?_⟩
 ·simp[World.cell?,h,hj]
 ·simp[World.frozen?,h]
theorem zgy {B b:Nat}{a:World}(hb:B≤b):∀(vs:List Value) (o:Nat) (w:World),Below B a w→Below B a (w.setCells b o vs)
 | [],_,_,h=>h
 | v :: vs,o,_,h=>zgy hb vs (o+1) _ (h.setCell hb v)
theorem zb9 {s:Sem Value}{w w':World}{n:Next}(hr:(do pure (Next.value (←s)):Sem Next).run P w=.ok n w'):∃u,n=.value u:=by
 simp only[Sem.run_bind] at hr;cases hq:s.run P w with
 | ok v w2=>rw[hq] at hr;simp only[Result.andThen_ok,Sem.run_pure] at hr;exact⟨v,(Result.ok.inj hr).1.symm⟩
 | halt x w2=>rw[hq] at hr;simp[Result.andThen] at hr
def zb0:List Nat→Array Bool→Array Bool
 | [],l=>l
 | i :: js,l=>zb0 js (l.setIfInBounds i true)
def Wd (S:World→Prop):Type:={ u:World // S u }
def Wd.w {S:World→Prop}(x:Wd S):World:=x.1
theorem zf8 {o:Oper}{a:Act}{w:World}{K:Act→World→Prop}(t:TypeId)(p x:Operand)(ho:o.op=.store t p x)(hdst:o.dst=none)(B:Nat)(vs c:List Value)(hp:a.eval p=.pointer (some ⟨B,0,none⟩))(hx:a.eval x=.agg vs.toArray)(h1:vs.all (·.oneCell')=true)
  (hb:w.heap[B]?=some (.cells c.toArray t (0,0))) (hl:c.length=vs.length) (hi:(P.info? t).map (·.size)=some vs.toArray.size) (h:K a (w.setCells B 0 vs)):o.wp P a w K Q:=by
 refine wp_store_mid t p x ho B 0 vs.toArray hp hx ?_ hi (by simpa using h1) ?_
 ·have:=znu hb;rw[hl] at this;simpa using this
 ·rw[hdst];exact h
end
end
section
open Go.RowKit
theorem zia (w:World)(t:TypeId):∀(vs pre post:List Value),post.length=vs.length→(w.alloc (.cells (pre++post).toArray t)).setCells w.heap.size pre.length vs=w.alloc (.cells (pre++vs).toArray t)
 | [],pre,post,h=>by
  have e:post=[]:=List.eq_nil_of_length_eq_zero h;subst e;rfl
 | v :: vs,pre,[],h=>by simp at h
 | v :: vs,pre,p :: post,h=>by
  rw[World.setCells,World.setCell_alloc_new];have e:((pre++p :: post).toArray.setIfInBounds pre.length v)=((pre++[v])++post).toArray:=by
   apply Array.toList_inj.1
   simp
  have h2:post.length=vs.length:=by simpa using h
  have k:=zia w t vs (pre++[v]) post h2;rw[e];have e2:(pre++[v]).length=pre.length+1:=by simp
  rw[e2] at k;rw[k];simp
theorem zao {ops:Array Oper}{rest:List Oper}{o1 o2:Oper}{a:Act}{w:World}{Q:Exit→Act→World→Prop}(hg1:o1.guard=none)(hg2:o2.guard=none)(ty:TypeId)(h1:o1.op=.alloc ty)(x y:Operand)(h2:o2.op=.store ty x y)
  (zs:List Value) (hz:(Instr.alloc ty true (.tuple #[])).run Tryz.prog w=.ok (.pointer (some ⟨w.heap.size,0,none⟩)) (w.alloc (.cells zs.toArray ty))) (hd2:o2.dst=none)
  (cells:Array Value) (hx:(a.put o1.dst (.pointer (some ⟨w.heap.size,0,none⟩))).eval x=.pointer (some ⟨w.heap.size,0,none⟩)) (hy:(a.put o1.dst (.pointer (some ⟨w.heap.size,0,none⟩))).eval y=.agg cells)
  (hl:zs.length=cells.size) (hi:(Tryz.prog.info? ty).map (·.size)=some cells.size) (hc:cells.all (·.oneCell')=true)
  (h:wpList Tryz.prog ops Q rest (a.put o1.dst (.pointer (some ⟨w.heap.size,0,none⟩))) (w.alloc (.cells cells ty))):wpList Tryz.prog ops Q (o1 :: o2 :: rest) a w:=by
 refine wpList_plain hg1 fun _ hK=>?_;unfold Oper.wp execOp;simp only[h1,Sem.run_bind,hz,Result.andThen_ok,Sem.run_pure];refine hK _ _ ?_;refine wpList_store_mid hg2 ty x y h2 w.heap.size 0 cells hx hy (fun j hj=>⟨?_,?_⟩) hi hc ?_
 ·have:j<zs.length:=by omega
  show ((w.alloc (.cells zs.toArray ty)).cell? ⟨w.heap.size,0+j,none⟩).isSome=true
  simp[this]
 ·simp
 ·have k:=zia w ty cells.toList [] zs (by simpa using hl);simp only[List.nil_append,List.length_nil] at k;rw[k,hd2];exact h
theorem zr5 {w:World}{k:Nat}{o:Obj}(h:w.heap[k]?=some o):k<w.heap.size:=by
 rcases Nat.lt_or_ge k w.heap.size with h1 | h1
 ·exact h1
 ·rw[Array.getElem?_eq_none h1] at h;cases h
theorem zd4 {ops:Array Oper}{rest:List Oper}{o:Oper}{a:Act}{w w':World}{v:Value}{Q:Exit→Act→World→Prop}(hgd:o.guard=none)(t:TypeId)(n:Nat)(parts:Array (Nat × Operand))(ho:o.op=.buildSlice t n parts)(vals:Array (Nat × Value))(hv:(parts.map fun (i,x)=>(i,a.eval x))=vals)
  (hs:(Instr.buildSlice t n vals).run Tryz.prog w=.ok v w') (h:wpList Tryz.prog ops Q rest (a.put o.dst v) w'):wpList Tryz.prog ops Q (o :: rest) a w:=by
 subst hv;refine wpList_plain hgd fun _ hK=>?_;unfold Oper.wp execOp;simp only[ho,Sem.run_bind,hs,Result.andThen_ok,Sem.run_pure];exact hK _ _ h
end
section
open Go Go.RowKit
def Blk (w:World)(B:Nat)(c:List Value)(t:TypeId):Prop:=w.heap[B]?=some (.cells c.toArray t (0,0))
theorem Blk.lt {w:World}{B:Nat}{c:List Value}{t:TypeId}(h:Blk w B c t):B<w.heap.size:=zr5 h
theorem Blk.kept {w w':World}{B:Nat}{c:List Value}{t:TypeId}(h:Blk w B c t)(hb:Below w.heap.size w w'):Blk w' B c t:=by
 unfold Blk;rw[hb.block B h.lt];exact h
theorem Blk.cell {w:World}{B:Nat}{c:List Value}{t:TypeId}(h:Blk w B c t)(i:Nat){v:Value}(hv:c[i]?=some v):w.cell? ⟨B,i,none⟩=some v:=by
 unfold Blk at h;simp[World.cell?,h,hv]
theorem Blk.frozen {w:World}{B:Nat}{c:List Value}{t:TypeId}(h:Blk w B c t)(i:Nat):w.frozen? ⟨B,i,none⟩=false:=by
 unfold Blk at h;simp[World.frozen?,h]
theorem Blk.there {w:World}{B:Nat}{c:List Value}{t:TypeId}(h:Blk w B c t):w.there B 0 c.length:=znu h
theorem Blk.range {w:World}{B:Nat}{c:List Value}{t:TypeId}(h:Blk w B c t):w.rangeAt B 0 c:=fun j v hv=>by rw[Nat.zero_add];exact h.cell j hv
theorem Blk.new (w:World)(c:List Value)(t:TypeId):Blk (w.alloc (.cells c.toArray t)) w.heap.size c t:=heap_alloc_new _ _
structure WroteB (w w':World)(B:Nat)(c:List Value)(t:TypeId):Prop where
 blk:Blk w' B c t
 other:∀b,b≠B→w'.heap[b]?=w.heap[b]?
 size:w'.heap.size=w.heap.size
 below:∀{B0:Nat} {a:World},B0≤B→Below B0 a w→Below B0 a w'
theorem WroteB.keep {w w':World}{B B':Nat}{c c':List Value}{t t':TypeId}(h:WroteB w w' B c t)(hb:Blk w B' c' t')(hne:B'≠B):Blk w' B' c' t':=by unfold Blk;rw[h.other _ hne];exact hb
theorem zhm (b:Nat):∀(vs:List Value) (o:Nat) (w:World) (k:Nat),k≠b→(w.setCells b o vs).heap[k]?=w.heap[k]?
 | [],_,_,_,_=>rfl
 | v :: vs,o,w,k,h=>by
  rw[World.setCells,zhm b vs (o+1) _ k h,Below.heap_setCell _ _ _ _ h]
theorem zho (b:Nat):∀(vs:List Value) (o:Nat) (w:World),(w.setCells b o vs).heap.size=w.heap.size
 | [],_,_=>rfl
 | v :: vs,o,w=>by rw[World.setCells,zho b vs (o+1)];simp[World.setCell]
theorem zh7 (t:TypeId):∀(vs pre post:List Value) (w:World) (B:Nat),post.length=vs.length→Blk w B (pre++post) t→Blk (w.setCells B pre.length vs) B (pre++vs) t
 | [],pre,post,w,B,h,hb=>by
  have e:post=[]:=List.eq_nil_of_length_eq_zero h;subst e;exact hb
 | v :: vs,pre,[],w,B,h,hb=>by simp at h
 | v :: vs,pre,p :: post,w,B,h,hb=>by
  rw[World.setCells];have h1:Blk (w.setCell ⟨B,pre.length,none⟩ v) B ((pre++[v])++post) t:=by
   have hl:=hb.lt;unfold Blk at hb ⊢;have e:((pre++p :: post).toArray.setIfInBounds pre.length v)=((pre++[v])++post).toArray:=by
    apply Array.toList_inj.1
    simp
   rw[←e];simp[World.setCell,Array.getElem?_modify,hb]
  have k:=zh7 t vs (pre++[v]) post _ B (by simpa using h) h1;rw[show (pre++[v]).length=pre.length+1 by simp] at k
  simpa using k
theorem zd7 {w:World}{B:Nat}{c:List Value}{t:TypeId}(h:Blk w B c t)(vs:List Value)(hl:c.length=vs.length):WroteB w (w.setCells B 0 vs) B vs t :=
 ⟨zh7 t vs [] c w B hl (by simpa using h),fun b hb=>zhm _ _ _ _ _ hb,zho _ _ _ _,fun hB hb=>zgy hB _ _ _ hb⟩
theorem zae {w:World}{ops:Array Oper}{rest:List Oper}{o:Oper}{a:Act}{Q:Exit→Act→World→Prop}(hgd:o.guard=none)(hdst:o.dst=none)(t:TypeId)(p x:Operand)(ho:o.op=.store t p x)(B:Nat)(vs:List Value)
  (hp:a.eval p=.pointer (some ⟨B,0,none⟩)) (hx:a.eval x=.agg vs.toArray) (h1:vs.all (·.oneCell')=true) {c:List Value} (hb:Blk w B c t) (hl:c.length=vs.length) (hi:(Tryz.prog.info? t).map (·.size)=some vs.toArray.size)
  (h:∀w',WroteB w w' B vs t→wpList Tryz.prog ops Q rest a w'):wpList Tryz.prog ops Q (o :: rest) a w:=by
 refine wpList_store_mid hgd t p x ho B 0 vs.toArray hp hx ?_ hi (by simpa using h1) ?_
 ·have:=hb.there;rw[hl] at this;simpa using this
 ·rw[hdst];exact h _ (zd7 hb vs hl)
theorem zar:∀(os:List Obj) (w:World) (i:Nat),i<os.length→(os.foldl World.alloc w).heap[w.heap.size+i]?=os[i]?
 | [],_,i,h=>absurd h (Nat.not_lt_zero i)
 | o :: os,w,0,_=>by
  show (os.foldl World.alloc (w.alloc o)).heap[w.heap.size+0]?=some o
  have key:∀(os:List Obj) (w:World) (k:Nat),k<w.heap.size→(os.foldl World.alloc w).heap[k]?=w.heap[k]?:=by
   intro os
   induction os with
   | nil=>intro w k _;rfl
   | cons o os ih=>intro w k hk;show (os.foldl World.alloc (w.alloc o)).heap[k]?=_;rw[ih _ k (by simp;omega),Below.heap_alloc _ _ _ hk]
  rw[Nat.add_zero,key os _ _ (by simp),heap_alloc_new]
 | o :: os,w,i+1,h=>by
  have:=zar os (w.alloc o) i (by simpa using h);show (os.foldl World.alloc (w.alloc o)).heap[w.heap.size+(i+1)]?=os[i]?
  rw[alloc_size] at this;rw[←this,show w.heap.size+1+i=w.heap.size+(i+1) by omega]
theorem zap:∀(os:List Obj) (w:World),Below w.heap.size w (os.foldl World.alloc w)
 | [],_=>Below.refl _ _
 | o :: os,w=>Below.next (zac w o) (zap os (w.alloc o))
theorem za9:∀(os:List Obj) (w:World),(os.foldl World.alloc w).heap.size=w.heap.size+os.length
 | [],_=>rfl
 | o :: os,w=>by
  show (os.foldl World.alloc (w.alloc o)).heap.size=_
  rw[za9 os,alloc_size];simp;omega
section
variable {P:Program} {ops:Array Oper} {Q:Exit→Act→World→Prop}
def zjc (o:Oper):Bool:=match o.op with
 | .load .. | .fieldAddr .. | .indexAddr .. | .extract .. | .move ..=>true
 | _=>false
theorem zoa {o:Oper}(h:zjc o=true)(ρ:Operand→Value)(w w':World)(n:Next)(hr:(execOp ρ o).run P w=.ok n w'):∃u,n=.value u:=by
 cases ho:o.op
 case load=>unfold execOp at hr;rw[ho] at hr;exact zb9 hr
 case fieldAddr=>unfold execOp at hr;rw[ho] at hr;exact zb9 hr
 case indexAddr=>unfold execOp at hr;rw[ho] at hr;exact zb9 hr
 case extract=>unfold execOp at hr;rw[ho] at hr;exact zb9 hr
 case move=>unfold execOp at hr;rw[ho] at hr;exact⟨_,(Result.ok.inj hr).1.symm⟩
 all_goals (unfold zjc at h;rw[ho] at h;cases h)
theorem zhz {S:World→Prop}{o:Oper}{a:Act}{K:Act→Prop}(hr:zjc o=true)(h:if Region.wanted o (yielded ops a.tmps) then o.quiet P a S K else K (a.put o.dst undef)):∃v,YieldsIf P ops S o v a∧K (a.put o.dst v):=by
 by_cases hw:Region.wanted o (yielded ops a.tmps)=true
 ·rw[if_pos hw] at h;obtain⟨v,h1,h2⟩:=h;refine⟨v,Or.inl ⟨hw,fun w hS=>?_⟩,h2⟩;have h3:=h1 w hS;unfold Oper.quietAt at h3;cases hq:(execOp a.eval o).run P w with
  | ok n w' =>
   obtain⟨u,rfl⟩:=zoa hr _ _ _ _ hq;rw[hq] at h3;simp only[Oper.quietUpon] at h3;rw[h3.1,h3.2]
  | halt x w'=>rw[hq] at h3;simp only[Oper.quietUpon] at h3
 ·rw[if_neg hw] at h;exact⟨undef,Or.inr ⟨by simpa using hw,rfl⟩,h⟩
def lexM (ops:Array Oper):List Nat→List Oper→Array Bool→Bool
 | [],[],_=>true
 | i :: js,o :: l,listed=>zjc o&&(Region.ready .any ops listed).contains i&&Region.free .any ops listed i&&lexM ops js l (listed.setIfInBounds i true)
 | _,_,_=>false
theorem zfu {S:World→Prop}{K:Act→Prop}{rest:Nat}{w:World}(hs:Region.noSelect ops=true)(hQ:∀c a d v w,Q (.panic c) (Act.put a d v) w→Q (.panic c) a w)(hS:S w):∀(js:List Nat) (l:List Oper) (listed:Array Bool) (a:Act),(∀j,j<l.length→∃i,js[j]?=some i∧ops[i]?=l[j]?) →
  lexM ops js l listed=true→wpQuiet P ops S K l a→(∀a',K a'→wpAnyH P .any ops Q S rest (zb0 js listed) a' w)→wpAnyH P .any ops Q S (js.length+rest) listed a w
 | [],[],_,_,_,_,h,hK=>by simpa [zb0] using hK _ h
 | [],_ :: _,_,_,_,hB,_,_=>by simp[lexM] at hB
 | _ :: _,[],_,_,_,hB,_,_=>by simp[lexM] at hB
 | i :: js,o :: l,listed,a,hl,hB,h,hK=>by
  have h0:ops[i]?=some o:=by
   obtain⟨i',h1,h2⟩:=hl 0 (by simp);have:i=i':=by simpa using h1
   subst this
   simpa using h2
  simp only[lexM,Bool.and_eq_true] at hB;obtain⟨⟨⟨hr,hc⟩,hf⟩,hB'⟩:=hB;have h':if Region.wanted o (yielded ops a.tmps) then o.quiet P a S (wpQuiet P ops S K l) else wpQuiet P ops S K l (a.put o.dst undef):=h
  obtain⟨v,hy,hk⟩:=zhz (ops:=ops) hr h';rw[show (i :: js).length+rest=(js.length+rest)+1 by simp;omega]
  exact wpAnyH_take h0 hs hf hc (fun c a w=>hQ c a _ _ w) hy hS (zfu hs hQ hS js l _ _ (fun j hj=>by
   obtain⟨i',h1,h2⟩:=hl (j+1) (by simp;omega)
   exact⟨i',by simpa using h1,by simpa using h2⟩) hB' hk hK)
theorem zj1 {id:Nat}{a:Act}{w:World}{l:List Oper}(S:World→Prop)(js:List Nat)(rest:Nat)(hm:P.follows .mixedOrders=true)(hlen:l.length=js.length+rest)(hB:(Region.noSelect l.toArray&&lexM l.toArray js (js.filterMap (l[·]?)) (Array.replicate l.length false))=true)(hj:∀j,j<(js.filterMap (l[·]?)).length→∃i,js[j]?=some i∧l.toArray[i]?=(js.filterMap (l[·]?))[j]?)
  (hQ:∀c a d v w,Q (.panic c) (Act.put a d v) w→Q (.panic c) a w) (hS:S w.drew)
  (h:wpQuiet P l.toArray (fun u=>∃x:Wd S,u=x.w) (fun a'=>wpAnyH P .any l.toArray Q S rest (zb0 js (Array.replicate l.length false)) a' w.drew) (js.filterMap (l[·]?)) a):(Code.region id l.toArray true).wp P Q a w:=by
 simp only[Bool.and_eq_true] at hB;refine wp_region_held_drew (S:=S) hm hS fun hS=>?_;have e3:Array.replicate l.toArray.size false=Array.replicate l.length false:=by simp
 have e2:l.toArray.size=js.length+rest:=by simpa using hlen
 have eS:(fun u:World=>∃x:Wd S,u=x.w)=S:=by
  funext u;apply propext
  exact⟨fun ⟨x,hx⟩=>hx ▸ x.2,fun h=>⟨⟨u,h⟩,rfl⟩⟩
 rw[eS] at h;rw[e3,e2];exact zfu hB.1 hQ hS js _ _ a hj hB.2 h (fun a' h=>h)
end
def zfr (Q:Exit→Act→World→Prop)(e:Exit)(a:Act)(w:World):Prop:=(∀c,e≠.panic c)∧Q e a w
theorem zal {P:Program}{Q:Exit→Act→World→Prop}{id:Nat}{a:Act}{w:World}{l:List Oper}(S:World→Prop)(js:List Nat)(rest:Nat)(hm:P.follows .mixedOrders=true)(hlen:l.length=js.length+rest)(hB:(Region.noSelect l.toArray&&lexM l.toArray js (js.filterMap (l[·]?)) (Array.replicate l.length false))=true)(hj:∀j,j<(js.filterMap (l[·]?)).length→∃i,js[j]?=some i∧l.toArray[i]?=(js.filterMap (l[·]?))[j]?)
  (hS:S w.drew)
  (h:wpQuiet P l.toArray (fun u=>∃x:Wd S,u=x.w) (fun a'=>wpAnyH P .any l.toArray (zfr Q) S rest (zb0 js (Array.replicate l.length false)) a' w.drew) (js.filterMap (l[·]?)) a):(Code.region id l.toArray true).wp P Q a w :=
 Code.wp_mono (fun _ _ _ h=>h.2) (zj1 S js rest hm hlen hB hj (fun c _ _ _ _ h=>absurd rfl (h.1 c)) hS h)
section
variable {P:Program} {ops:Array Oper} {Q:Exit→Act→World→Prop}
theorem zjp {A:Type}{s:Sem A}{k:A→Sem Next}{w w':World}{n:Next}(hk:∀a u u',(k a).run P u=.ok n u'→∃v,n=.value v)(hr:(do k (←s):Sem Next).run P w=.ok n w'):∃u,n=.value u:=by
 simp only[Sem.run_bind] at hr;cases hq:s.run P w with
 | ok a w2=>rw[hq] at hr;simp only[Result.andThen_ok] at hr;exact hk _ _ _ hr
 | halt x w2=>rw[hq] at hr;simp[Result.andThen] at hr
def zi4 (o:Oper):Bool:=match o.op with
 | .load .. | .fieldAddr .. | .indexAddr .. | .extract .. | .move .. | .binOp .. | .convert .. | .build .. | .slice .. | .nilCheck .. | .unOp .. | .pick .. | .field ..=>true
 | _=>false
theorem zoq {o:Oper}(h:zi4 o=true)(ρ:Operand→Value)(w w':World)(n:Next)(hr:(execOp ρ o).run P w=.ok n w'):∃u,n=.value u:=by
 cases ho:o.op
 case load=>unfold execOp at hr;rw[ho] at hr;exact zb9 hr
 case fieldAddr=>unfold execOp at hr;rw[ho] at hr;exact zb9 hr
 case indexAddr=>unfold execOp at hr;rw[ho] at hr;exact zb9 hr
 case extract=>unfold execOp at hr;rw[ho] at hr;exact zb9 hr
 case move=>unfold execOp at hr;rw[ho] at hr;exact⟨_,(Result.ok.inj hr).1.symm⟩
 case binOp=>unfold execOp at hr;rw[ho] at hr;exact zb9 hr
 case convert=>unfold execOp at hr;rw[ho] at hr;exact zb9 hr
 case build=>unfold execOp at hr;rw[ho] at hr;exact zb9 hr
 case slice=>unfold execOp at hr;rw[ho] at hr;exact zb9 hr
 case unOp=>unfold execOp at hr;rw[ho] at hr;exact zb9 hr
 case field=>unfold execOp at hr;rw[ho] at hr;exact zb9 hr
 case pick c x y =>
  unfold execOp at hr;rw[ho] at hr;simp only[Sem.run_bind] at hr;cases hq:(asBool (ρ c)).run P w with
  | ok v w2=>rw[hq] at hr;simp only[Result.andThen_ok,Sem.run_pure] at hr;exact⟨_,(Result.ok.inj hr).1.symm⟩
  | halt x w2=>rw[hq] at hr;simp[Result.andThen] at hr
 case nilCheck x =>
  unfold execOp at hr;rw[ho] at hr;simp only at hr;split at hr
  ·cases hr
  ·cases hr
  ·cases hr
  ·split at hr
   ·cases hr
   ·refine zjp (fun a u u' h1=>?_) hr;refine zjp (fun b v v' h2=>?_) h1;split at h2
    ·refine zjp (fun c x x' h3=>?_) h2;exact⟨_,(Result.ok.inj h3).1.symm⟩
    ·exact⟨_,(Result.ok.inj h2).1.symm⟩
   ·exact⟨_,(Result.ok.inj hr).1.symm⟩
  ·exact⟨_,(Result.ok.inj hr).1.symm⟩
 all_goals (unfold zi4 at h;rw[ho] at h;cases h)
theorem zfo {S:World→Prop}{o:Oper}{a:Act}{K:Act→Prop}(hr:zi4 o=true)(h:if Region.wanted o (yielded ops a.tmps) then o.quiet P a S K else K (a.put o.dst undef)):∃v,YieldsIf P ops S o v a∧K (a.put o.dst v):=by
 by_cases hw:Region.wanted o (yielded ops a.tmps)=true
 ·rw[if_pos hw] at h;obtain⟨v,h1,h2⟩:=h;refine⟨v,Or.inl ⟨hw,fun w hS=>?_⟩,h2⟩;have h3:=h1 w hS;unfold Oper.quietAt at h3;cases hq:(execOp a.eval o).run P w with
  | ok n w' =>
   obtain⟨u,rfl⟩:=zoq hr _ _ _ _ hq;rw[hq] at h3;simp only[Oper.quietUpon] at h3;rw[h3.1,h3.2]
  | halt x w'=>rw[hq] at h3;simp only[Oper.quietUpon] at h3
 ·rw[if_neg hw] at h;exact⟨undef,Or.inr ⟨by simpa using hw,rfl⟩,h⟩
def lexQ (ops:Array Oper):List Nat→List Oper→Array Bool→Bool
 | [],[],_=>true
 | i :: js,o :: l,listed=>zi4 o&&(Region.ready .any ops listed).contains i&&Region.free .any ops listed i&&lexQ ops js l (listed.setIfInBounds i true)
 | _,_,_=>false
theorem zfv {S:World→Prop}{K:Act→Prop}{rest:Nat}{w:World}(hs:Region.noSelect ops=true)(hQ:∀c a d v w,Q (.panic c) (Act.put a d v) w→Q (.panic c) a w)(hS:S w):∀(js:List Nat) (l:List Oper) (listed:Array Bool) (a:Act),(∀j,j<l.length→∃i,js[j]?=some i∧ops[i]?=l[j]?) →
  lexQ ops js l listed=true→wpQuiet P ops S K l a→(∀a',K a'→wpAnyH P .any ops Q S rest (zb0 js listed) a' w)→wpAnyH P .any ops Q S (js.length+rest) listed a w
 | [],[],_,_,_,_,h,hK=>by simpa [zb0] using hK _ h
 | [],_ :: _,_,_,_,hB,_,_=>by simp[lexQ] at hB
 | _ :: _,[],_,_,_,hB,_,_=>by simp[lexQ] at hB
 | i :: js,o :: l,listed,a,hl,hB,h,hK=>by
  have h0:ops[i]?=some o:=by
   obtain⟨i',h1,h2⟩:=hl 0 (by simp);have:i=i':=by simpa using h1
   subst this
   simpa using h2
  simp only[lexQ,Bool.and_eq_true] at hB;obtain⟨⟨⟨hr,hc⟩,hf⟩,hB'⟩:=hB;have h':if Region.wanted o (yielded ops a.tmps) then o.quiet P a S (wpQuiet P ops S K l) else wpQuiet P ops S K l (a.put o.dst undef):=h
  obtain⟨v,hy,hk⟩:=zfo (ops:=ops) hr h';rw[show (i :: js).length+rest=(js.length+rest)+1 by simp;omega]
  exact wpAnyH_take h0 hs hf hc (fun c a w=>hQ c a _ _ w) hy hS (zfv hs hQ hS js l _ _ (fun j hj=>by
   obtain⟨i',h1,h2⟩:=hl (j+1) (by simp;omega)
   exact⟨i',by simpa using h1,by simpa using h2⟩) hB' hk hK)
theorem zjr {id:Nat}{a:Act}{w:World}{l:List Oper}(S:World→Prop)(js:List Nat)(rest:Nat)(hm:P.follows .mixedOrders=true)(hlen:l.length=js.length+rest)(hB:(Region.noSelect l.toArray&&lexQ l.toArray js (js.filterMap (l[·]?)) (Array.replicate l.length false))=true)(hj:∀j,j<(js.filterMap (l[·]?)).length→∃i,js[j]?=some i∧l.toArray[i]?=(js.filterMap (l[·]?))[j]?)
  (hQ:∀c a d v w,Q (.panic c) (Act.put a d v) w→Q (.panic c) a w) (hS:S w.drew)
  (h:wpQuiet P l.toArray (fun u=>∃x:Wd S,u=x.w) (fun a'=>wpAnyH P .any l.toArray Q S rest (zb0 js (Array.replicate l.length false)) a' w.drew) (js.filterMap (l[·]?)) a):(Code.region id l.toArray true).wp P Q a w:=by
 simp only[Bool.and_eq_true] at hB;refine wp_region_held_drew (S:=S) hm hS fun hS=>?_;have e3:Array.replicate l.toArray.size false=Array.replicate l.length false:=by simp
 have e2:l.toArray.size=js.length+rest:=by simpa using hlen
 have eS:(fun u:World=>∃x:Wd S,u=x.w)=S:=by
  funext u;apply propext
  exact⟨fun ⟨x,hx⟩=>hx ▸ x.2,fun h=>⟨⟨u,h⟩,rfl⟩⟩
 rw[eS] at h;rw[e3,e2];exact zfv hB.1 hQ hS js _ _ a hj hB.2 h (fun a' h=>h)
end
theorem zbi {P:Program}{Q:Exit→Act→World→Prop}{id:Nat}{a:Act}{w:World}{l:List Oper}(S:World→Prop)(js:List Nat)(rest:Nat)(hm:P.follows .mixedOrders=true)(hlen:l.length=js.length+rest)(hB:(Region.noSelect l.toArray&&lexQ l.toArray js (js.filterMap (l[·]?)) (Array.replicate l.length false))=true)(hj:∀j,j<(js.filterMap (l[·]?)).length→∃i,js[j]?=some i∧l.toArray[i]?=(js.filterMap (l[·]?))[j]?)
  (hS:S w.drew)
  (h:wpQuiet P l.toArray (fun u=>∃x:Wd S,u=x.w) (fun a'=>wpAnyH P .any l.toArray (zfr Q) S rest (zb0 js (Array.replicate l.length false)) a' w.drew) (js.filterMap (l[·]?)) a):(Code.region id l.toArray true).wp P Q a w :=
 Code.wp_mono (fun _ _ _ h=>h.2) (zjr S js rest hm hlen hB hj (fun c _ _ _ _ h=>absurd rfl (h.1 c)) hS h)
theorem zeh {l:List Oper}{js:List Nat}(h:(js.all fun i=>decide (i<l.length))=true):∀j,j<(js.filterMap (l[·]?)).length→∃i,js[j]?=some i∧l.toArray[i]?=(js.filterMap (l[·]?))[j]?:=by
 induction js with
 | nil=>intro j hj;simp at hj
 | cons i js ih =>
  simp only[List.all_cons,Bool.and_eq_true,decide_eq_true_eq] at h;have e:l[i]?=some l[i]:=List.getElem?_eq_getElem h.1;intro j hj;cases j with
  | zero=>exact⟨i,rfl,by simp[e]⟩
  | succ j =>
   rw[List.filterMap_cons,e] at hj;obtain⟨i',h1,h2⟩:=ih h.2 j (by simpa using hj);refine⟨i',by simpa using h1,?_⟩;rw[h2,List.filterMap_cons,e];simp
theorem zbw {P:Program}{l:List Oper}{Q:Exit→Act→World→Prop}{S:World→Prop}(js:List Nat){rest fuel:Nat}{listed:Array Bool}{a:Act}{w:World}(hf:fuel=js.length+rest)(hj:(js.all fun i=>decide (i<l.length))=true)(hB:(Region.noSelect l.toArray&&lexQ l.toArray js (js.filterMap (l[·]?)) listed)=true)(hS:S w)
  (h:wpQuiet P l.toArray (fun u=>∃x:Wd S,u=x.w) (fun a'=>wpAnyH P .any l.toArray (zfr Q) S rest (zb0 js listed) a' w) (js.filterMap (l[·]?)) a):wpAnyH P .any l.toArray (zfr Q) S fuel listed a w:=by
 simp only[Bool.and_eq_true] at hB;have eS:(fun u:World=>∃x:Wd S,u=x.w)=S:=by
  funext u;apply propext
  exact⟨fun ⟨x,hx⟩=>hx ▸ x.2,fun h=>⟨⟨u,h⟩,rfl⟩⟩
 rw[eS] at h;rw[hf];exact zfv hB.1 (fun c _ _ _ _ h=>absurd rfl (h.1 c)) hS js _ _ a (zeh hj) hB.2 h (fun a' h=>h)
section
variable {P:Program} {ops:Array Oper} {Q:Exit→Act→World→Prop} {md:Region.Mode} {S:World→Prop} {m:Nat}
def zdx (P:Program)(md:Region.Mode)(ops:Array Oper)(Q:Exit→Act→World→Prop)(S:World→Prop)(m:Nat):Nat→Array Bool→Act→World→Prop
 | 0,listed,a,w=>Region.ready md ops listed=[]∧Q .normal a w
 | fuel+1,listed,a,w =>
  (Region.ready md ops listed=[]→Q .normal a w) ∧
  ∀i ∈ Region.ready md ops listed,wpOp P ops Q i (fun a' w'=>(i≠m→S w')∧zdx P md ops Q S m fuel (listed.setIfInBounds i true) a' w') a w
theorem zkz:∀(fuel:Nat) (listed:Array Bool) (a:Act) (w:World),zdx P md ops Q S m fuel listed a w→wpAny P md ops Q fuel listed a w
 | 0,_,_,_,h=>h
 | fuel+1,_,_,_,h=>⟨h.1,fun i hi=>wpOp_mono (fun a' w' h'=>zkz fuel _ a' w' h'.2) (h.2 i hi)⟩
theorem zmt {i:Nat}{oi:Oper}{v:Value}(hi:ops[i]?=some oi)(hsel:∀(j:Nat) (o:Oper) cs b,ops[j]?=some o→o.op≠.select cs b)
  (hQ:∀c a w,Q (.panic c) (a.put oi.dst v) w→Q (.panic c) a w) (hsk:Region.sinkB md ops m=true) (him:i<m) :
  ∀(fuel:Nat) (listed:Array Bool) (a:Act) (w:World),Shut md ops listed →
   (∀j oj,ops[j]?=some oj→j≠i→listed.getD j true=false→(∀e ∈ oj.after,Region.binds md e=true→e.on≠i)→oi.apart ops oj=true) →
   i ∈ Region.ready md ops listed→YieldsIf P ops S oi v a→S w →
   zdx P md ops Q S m fuel (listed.setIfInBounds i true) (a.put oi.dst v) w→zdx P md ops Q S m (fuel+1) listed a w:=by
 intro fuel
 induction fuel with
 | zero =>
  intro listed a w _ _ hr hy hS H;refine⟨fun h=>(by rw[h] at hr;cases hr),fun j hj=>?_⟩
  by_cases hji:j=i
  ·subst hji;exact hy.wpOp hi hS ⟨fun _=>hS,H⟩
  ·have:=ready_mono hj hji;rw[H.1] at this;cases this
 | succ fuel ih =>
  intro listed a w hShut hfree hr hy hS H;refine⟨fun h=>(by rw[h] at hr;cases hr),fun j hj=>?_⟩
  by_cases hji:j=i
  ·subst hji;exact hy.wpOp hi hS ⟨fun _=>hS,H⟩
  ·have h1:=H.2 j (ready_mono hj hji);obtain⟨hjun,oj,hoj,hall⟩:=mem_ready.1 hj;have hjm:j≠m:=by
    intro e;subst e;have h2:=zmx hsk hShut hoj hall (j - 1 - i) i (by omega);have h3:=(mem_ready.1 hr).1;rcases Nat.lt_or_ge i listed.size with h' | h'
    ·simp[h'] at h2 h3;rw[h2] at h3;cases h3
    ·simp[Array.getElem?_eq_none h'] at h2
   have hnot:∀e ∈ oj.after,Region.binds md e=true→e.on≠i:=fun e he hb heq=>by
    have h1:=hall e he hb;have h0:=(mem_ready.1 hr).1;rw[heq] at h1;rcases Nat.lt_or_ge i listed.size with h' | h'
    ·simp[h'] at h0 h1;rw[h0] at h1;cases h1
    ·simp[Array.getElem?_eq_none h'] at h1
   have h2:=wpOp_putIf hoj (hfree j oj hoj hji hjun hnot) (fun cs b=>hsel i oi cs b hi) (fun cs b=>hsel j oj cs b hoj) hQ hy h1;have hfree':∀k ok,ops[k]?=some ok→k≠i→(listed.setIfInBounds j true).getD k true=false →
     (∀e ∈ ok.after,Region.binds md e=true→e.on≠i)→oi.apart ops ok=true:=fun k ok hk hki hun hno=>by
    refine hfree k ok hk hki ?_ hno;by_cases hjk:j=k
    ·subst hjk;exact hjun
    ·rw[getD_set_ne true hjk] at hun;exact hun
   refine wpOp_mono (fun a' w' h3=>⟨fun _=>h3.2.1 hjm,ih (listed.setIfInBounds j true) a' w' (hShut.put hj) hfree' (ready_mono hr (Ne.symm hji)) h3.1 (h3.2.1 hjm) ?_⟩) h2;rw[Array.setIfInBounds_comm _ _ hji];exact h3.2.2
def AllReadyL (P:Program)(md:Region.Mode)(ops:Array Oper)(Q:Exit→Act→World→Prop)(S:World→Prop)(m:Nat)(fuel:Nat)(listed:Array Bool)(a:Act)(w:World)(rs:List Nat):Prop :=
 ∀i ∈ rs,wpOp P ops Q i (fun a' w'=>(i≠m→S w')∧zdx P md ops Q S m fuel (listed.setIfInBounds i true) a' w') a w
theorem AllReadyL.nil {fuel:Nat}{listed:Array Bool}{a:Act}{w:World}:AllReadyL P md ops Q S m fuel listed a w []:=fun _ h=>by cases h
theorem AllReadyL.cons {fuel:Nat}{listed:Array Bool}{a:Act}{w:World}{i:Nat}{o:Oper}{rs:List Nat}(ho:ops[i]?=some o)
  (h:∀K':Act→World→Prop,Hid (∀a w,(i≠m→S w)→zdx P md ops Q S m fuel (listed.setIfInBounds i true) a w→K' a w)→if Region.wanted o (yielded ops a.tmps)=true then Oper.wp P o a w K' Q else K' (a.put o.dst undef) w)
  (hs:AllReadyL P md ops Q S m fuel listed a w rs):AllReadyL P md ops Q S m fuel listed a w (i :: rs):=fun j hj=>by
 rcases List.mem_cons.1 hj with rfl | hj
 ·exact wpOp_step ho (fun K' hK=>h K' (fun a w hS hW=>hK a w ⟨hS,hW⟩))
 ·exact hs j hj
theorem zaj {rs:List Nat}{fuel:Nat}{listed:Array Bool}{a:Act}{w:World}(hr:Region.ready md ops listed=rs)(hne:rs≠[])
  (h:AllReadyL P md ops Q S m fuel listed a w rs):zdx P md ops Q S m (fuel+1) listed a w:=⟨fun h0=>absurd (hr.symm.trans h0) hne,fun i hi=>h i (by rw[←hr];exact hi)⟩
theorem zbc {listed:Array Bool}{a:Act}{w:World}(hr:Region.ready md ops listed=[])(h:Q .normal a w):∀fuel,zdx P md ops Q S m fuel listed a w
 | 0=>⟨hr,h⟩
 | _+1=>⟨fun _=>h,fun i hi=>by rw[hr] at hi;cases hi⟩
theorem zhs {K:Act→Prop}{rest:Nat}{w:World}(hs:Region.noSelect ops=true)(hQ:∀c a d v w,Q (.panic c) (Act.put a d v) w→Q (.panic c) a w)(hsk:Region.sinkB .any ops m=true)(hS:S w):∀(js:List Nat) (l:List Oper) (listed:Array Bool) (a:Act),Shut .any ops listed→(js.all fun i=>decide (i<m))=true→(∀j,j<l.length→∃i,js[j]?=some i∧ops[i]?=l[j]?) →
  lexQ ops js l listed=true→wpQuiet P ops S K l a→(∀a',K a'→zdx P .any ops Q S m rest (zb0 js listed) a' w)→zdx P .any ops Q S m (js.length+rest) listed a w
 | [],[],_,_,_,_,_,_,h,hK=>by simpa [zb0] using hK _ h
 | [],_ :: _,_,_,_,_,_,hB,_,_=>by simp[lexQ] at hB
 | _ :: _,[],_,_,_,_,_,hB,_,_=>by simp[lexQ] at hB
 | i :: js,o :: l,listed,a,hSh,hjm,hl,hB,h,hK=>by
  have h0:ops[i]?=some o:=by
   obtain⟨i',h1,h2⟩:=hl 0 (by simp);have:i=i':=by simpa using h1
   subst this
   simpa using h2
  simp only[lexQ,Bool.and_eq_true] at hB;obtain⟨⟨⟨hr,hc⟩,hf⟩,hB'⟩:=hB;simp only[List.all_cons,Bool.and_eq_true,decide_eq_true_eq] at hjm;have h':if Region.wanted o (yielded ops a.tmps) then o.quiet P a S (wpQuiet P ops S K l) else wpQuiet P ops S K l (a.put o.dst undef):=h
  obtain⟨v,hy,hk⟩:=zfo (ops:=ops) hr h';rw[show (i :: js).length+rest=(js.length+rest)+1 by simp;omega]
  have hmem:i ∈ Region.ready .any ops listed:=by simpa using hc
  exact zmt h0 (Region.noSelect_spec hs) (fun c a w=>hQ c a _ _ w) hsk hjm.1 _ listed a w hSh (Region.free_spec h0 hf) hmem hy hS (zhs hs hQ hsk hS js l _ _ (hSh.put hmem) hjm.2 (fun j hj=>by
   obtain⟨i',h1,h2⟩:=hl (j+1) (by simp;omega)
   exact⟨i',by simpa using h1,by simpa using h2⟩) hB' hk hK)
end
theorem zaw {P:Program}{Q:Exit→Act→World→Prop}{id:Nat}{a:Act}{w:World}{l:List Oper}(S:World→Prop)(m:Nat)(js:List Nat)(rest:Nat)(hm:P.follows .mixedOrders=true)(hlen:l.length=js.length+rest)(hB:(Region.noSelect l.toArray&&lexQ l.toArray js (js.filterMap (l[·]?)) (Array.replicate l.length false)&&Region.sinkB .any l.toArray m&&(js.all fun i=>decide (i<m))&&(js.all fun i=>decide (i<l.length)))=true)
  (hS:S w.drew)
  (h:wpQuiet P l.toArray (fun u=>∃x:Wd S,u=x.w) (fun a'=>zdx P .any l.toArray (zfr Q) S m rest (zb0 js (Array.replicate l.length false)) a' w.drew) (js.filterMap (l[·]?)) a):(Code.region id l.toArray true).wp P Q a w:=by
 refine Code.wp_mono (fun _ _ _ h=>h.2) (Q:=zfr Q) ?_;simp only[Bool.and_eq_true] at hB;obtain⟨⟨⟨⟨h1,h2⟩,h3⟩,h4⟩,h5⟩:=hB;have e3:Array.replicate l.toArray.size false=Array.replicate l.length false:=by simp
 have e2:l.toArray.size=js.length+rest:=by simpa using hlen
 have eS:(fun u:World=>∃x:Wd S,u=x.w)=S:=by
  funext u;apply propext
  exact⟨fun ⟨x,hx⟩=>hx ▸ x.2,fun h=>⟨⟨u,h⟩,rfl⟩⟩
 rw[eS] at h;refine wp_region_any hm (zkz _ _ _ _ (S:=S) (m:=m) ?_);rw[e3,e2];exact zhs h1 (fun c _ _ _ _ h=>absurd rfl (h.1 c)) h3 hS js _ _ a (by intro k o hk;simp[Array.getElem?_replicate] at hk;split at hk <;> simp_all) h4 (zeh h5) h2 h (fun a' h=>h)
end
section
open Go.ChangeShapes Go.WideShapes Go.ChangeAt Go.RowKit Go.Deep Go.Joins
theorem Tryz.cellsInt':Tryz.prog.cellsOf 3=1:=by kernel_rfl
theorem Tryz.cellsTys:Tryz.prog.cellsOf 36=1:=by kernel_rfl
theorem Tryz.cellsTy:Tryz.prog.cellsOf 38=5:=by kernel_rfl
section
variable {H:Type} {enc:TypeId × Value→H} {W:World} {base:Nat}
def Ty.cs (t:Ty):List Value:=[.int .i64 t.k,.int .i64 t.l,.slice t.ao t.len t.cap,.int .i64 t.h,.int .i64 t.e]
theorem zi7:∀(fuel:Nat) (cs:List Value) (x:DataW H × List MemPlace),DataW.trod enc Tryz.prog W base (fun _=>true) true fuel 38 cs=some x→∃t:Ty,cs=t.cs∧t.At W:=by
 intro fuel
 induction fuel using Nat.strongRecOn with
 | _ fuel ih =>
  intro cs x h;obtain⟨xs,n,rfl,_,hl,hlen,hf⟩:=DataW.trod_struct Tryz.underlying38 h;rw[Tryz.cellsTy] at hl
  match cs,hl with
  | [c0,c1,c2,c3,c4],_ =>
   have hlen5:xs.length=5:=hlen
   match xs,hlen5 with
   | [y0,y1,y2,y3,y4],_ =>
    have f0:DataW.trod enc Tryz.prog W base (fun _=>true) true n 3 [c0]=some y0:=by simpa [Tryz.cellsInt'] using hf 0 _ rfl
    have f1:DataW.trod enc Tryz.prog W base (fun _=>true) true n 3 [c1]=some y1:=by simpa [Tryz.cellsInt'] using hf 1 _ rfl
    have f2:DataW.trod enc Tryz.prog W base (fun _=>true) true n 36 [c2]=some y2:=by simpa [Tryz.cellsTys] using hf 2 _ rfl
    have f3:DataW.trod enc Tryz.prog W base (fun _=>true) true n 3 [c3]=some y3:=by simpa [Tryz.cellsInt'] using hf 3 _ rfl
    have f4:DataW.trod enc Tryz.prog W base (fun _=>true) true n 3 [c4]=some y4:=by simpa [Tryz.cellsInt'] using hf 4 _ rfl
    obtain⟨k,q0,_⟩:=DataW.trod_int Tryz.underlying3 f0;obtain⟨l,q1,_⟩:=DataW.trod_int Tryz.underlying3 f1;obtain⟨hh,q3,_⟩:=DataW.trod_int Tryz.underlying3 f3;obtain⟨e,q4,_⟩:=DataW.trod_int Tryz.underlying3 f4;simp only[List.cons.injEq,and_true] at q0 q1 q3 q4;subst q0 q1 q3 q4;rcases DataW.trod_slice Tryz.underlying36 f2 with ⟨hcs,_⟩ | ⟨a,len,cap,elems,rest,m,hm,hcs,_,_,hlc,hmx,hel,hx,_,_⟩
    ·simp only[List.cons.injEq,and_true] at hcs;subst hcs;exact⟨.mk k l hh e none 0 0 0 0 (fun _=>.dm),rfl,⟨fun h=>absurd h (Nat.lt_irrefl _),Nat.zero_le _,fun _ h=>absurd h (Nat.not_lt_zero _)⟩⟩
    ·simp only[List.cons.injEq,and_true] at hcs;subst hcs hm;unfold maxLen at hmx;have each:∀i,i<len→∃t:Ty,(∀j,j<5→W.cell? (a.add (i*5+j))=t.cs[j]?)∧t.At W:=by
      intro i hi;have h1:=hx i hi;rw[Tryz.cellsTy] at h1;cases hc:W.cells? base (a.add (i*5)) 5 with
      | none=>rw[hc] at h1;simp at h1;omega
      | some cs' =>
       rw[hc] at h1;have h2:DataW.trod enc Tryz.prog W base (fun _=>true) true m 38 cs'=some elems[i]:=by
        rw[List.getElem?_eq_getElem (by omega)] at h1
        simpa using h1
       obtain⟨t,rfl,hA⟩:=ih m (by omega) cs' _ h2;obtain⟨_,_,hcell⟩:=World.cells?_some hc;exact⟨t,fun j hj=>by rw[←hcell j hj,add_add],hA⟩
     have hspot:0<len→a=⟨a.block,a.off,none⟩:=fun hp=>by
      obtain⟨t,ht,_⟩:=each 0 hp;have hs:=World.cell?_spot (a:=a.add (0*5+0)) (v:=.int .i64 t.k) (by rw[ht 0 (by omega)];rfl)
      obtain⟨ab,ao,asp⟩:=a;have:asp=none:=by simpa [Addr.add] using hs
      subst this;rfl
     refine⟨.mk k l hh e (some a) a.block a.off len cap (fun i=>if h:i<len then Classical.choose (each i h) else .dm),rfl,⟨fun hp=>congrArg some (hspot hp),by omega,fun i hi=>?_⟩⟩;simp only[dif_pos hi];obtain⟨ht,hA⟩:=Classical.choose_spec (each i hi);generalize Classical.choose (each i hi)=t at ht hA;have ea:=hspot (by omega);have get:∀j,j<5→W.cell? ⟨a.block,a.off+i*5+j,none⟩=t.cs[j]?:=fun j hj=>by
      have:=ht j hj;rw[ea,addr_plain,←Nat.add_assoc] at this;exact this
     exact⟨⟨get 0 (by omega),get 1 (by omega),get 2 (by omega),get 3 (by omega),get 4 (by omega)⟩,hA⟩
end
end
end Go.Proofs.YtgioppfoceddfaaGreat
