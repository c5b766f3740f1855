import Derived.Deep.Quiet
import Derived.OrdersHeld
import Derived.Test.YtfobijdkoeifjaaGreatDoorP8
import Derived.StillTail
import Derived.Laws.EntriesVeiled
import Derived.Deep.RegionHeld3
import Derived.Deep.MidRow
import Derived.LaidEql
import Derived.Carry
import Derived.Deep.AppendLies
import Derived.Deep.DeepCutAuto
set_option maxRecDepth 100000
set_option maxHeartbeats 32000000
namespace Go.Proofs.YtfobijdkoeifjaaGreatDoor
section
open Go
section
variable {P:Program} {ops:Array Oper} {md:Region.Mode} {C:World→Prop} {m:Nat} {R:Array Bool→Act→Prop}
def zhj (P:Program)(md:Region.Mode)(ops:Array Oper)(C:World→Prop)(m:Nat)(R:Array Bool→Act→Prop):Nat→Array Bool→Act→Prop
 | 0,listed,a=>(∀i ∈ Region.ready md ops listed,¬i<m)∧R listed a
 | fuel+1,listed,a=>((∀i ∈ Region.ready md ops listed,¬i<m)→R listed a) ∧
  ∀i ∈ Region.ready md ops listed,i<m→qOp P ops C i (zhj P md ops C m R fuel (listed.setIfInBounds i true)) a
theorem zmu {i:Nat}{oi:Oper}{v:Value}(hi:ops[i]?=some oi)(him:i<m)(hsel:∀(j:Nat) (o:Oper) cs b,ops[j]?=some o→o.op≠.select cs b) :
  ∀(fuel:Nat) (listed:Array Bool) (a:Act),
   (∀j oj,ops[j]?=some oj→j≠i→listed.getD j true=false→(∀e ∈ oj.after,Region.binds md e=true→e.on≠i)→oi.apart ops oj=true) →
   i ∈ Region.ready md ops listed→YieldsIn P ops C oi v a →
   zhj P md ops C m R fuel (listed.setIfInBounds i true) (a.put oi.dst v)→zhj P md ops C m R (fuel+1) listed a:=by
 intro fuel
 induction fuel with
 | zero =>
  intro listed a _ hr hy H;refine⟨fun h=>absurd him (h i hr),fun j hj hjm=>?_⟩;by_cases hji:j=i
  ·subst hji;exact hy.qOp hi H
  ·exact absurd hjm (H.1 j (ready_mono hj hji))
 | succ fuel ih =>
  intro listed a hfree hr hy H;refine⟨fun h=>absurd him (h i hr),fun j hj hjm=>?_⟩;by_cases hji:j=i
  ·subst hji;exact hy.qOp hi H
  ·have h1:=H.2 j (ready_mono hj hji) hjm;obtain⟨hjun,oj,hoj,hall⟩:=mem_ready.1 hj;have hnot:∀e ∈ oj.after,Region.binds md e=true→e.on≠i:=fun e he hb heq=>by
    have h1:=hall e he hb;have h0:=(mem_ready.1 hr).1;rw[heq] at h1;rcases Nat.lt_or_ge i listed.size with h' | h'
    ·simp[h'] at h0 h1;rw[h0] at h1;cases h1
    ·simp[Array.getElem?_eq_none h'] at h1
   have h2:=qOp_put hoj (hfree j oj hoj hji hjun hnot) (fun cs b=>hsel i oi cs b hi) (fun cs b=>hsel j oj cs b hoj) hy h1;have hfree':∀k ok,ops[k]?=some ok→k≠i→(listed.setIfInBounds j true).getD k true=false →
     (∀e ∈ ok.after,Region.binds md e=true→e.on≠i)→oi.apart ops ok=true:=fun k ok hk hki hun hno=>by
    refine hfree k ok hk hki ?_ hno;by_cases hjk:j=k
    ·subst hjk;exact hjun
    ·rw[getD_set_ne true hjk] at hun;exact hun
   refine qOp_mono (fun a' h3=>ih (listed.setIfInBounds j true) a' hfree' (ready_mono hr (Ne.symm hji)) h3.1 ?_) h2;rw[Array.setIfInBounds_comm _ _ hji];exact h3.2
def lexTo (md:Region.Mode)(ops:Array Oper)(m:Nat):Nat→Nat→Array Bool→Bool
 | 0,_,listed=>(Region.ready md ops listed).all fun i=>decide (m≤i)
 | fuel+1,k,listed=>(Region.ready md ops listed).contains k&&decide (k<m)&&Region.free md ops listed k&&lexTo md ops m fuel (k+1) (listed.setIfInBounds k true)
def ze1:Nat→Nat→Array Bool→Array Bool
 | 0,_,l=>l
 | fuel+1,k,l=>ze1 fuel (k+1) (l.setIfInBounds k true)
theorem zka (hs:Region.noSelect ops=true):∀(l:List Oper) (k:Nat) (listed:Array Bool) (a:Act),(∀j,j<l.length→l[j]?=ops[k+j]?) →
  lexTo md ops m l.length k listed=true→wpQuiet P ops C (R (ze1 l.length k listed)) l a→zhj P md ops C m R l.length listed a
 | [],_,_,_,_,hB,h=>⟨fun i hi hm=>by simp only[List.length_nil,lexTo,List.all_eq_true,decide_eq_true_eq] at hB;have:=hB i hi;omega,h⟩
 | o :: l,k,listed,a,hl,hB,h=>by
  have h0:ops[k]?=some o:=by simpa using (hl 0 (by simp)).symm
  simp only[List.length_cons,lexTo,Bool.and_eq_true,decide_eq_true_eq] at hB;obtain⟨⟨⟨hr,hk⟩,hf⟩,hB'⟩:=hB;have hst:qOp P ops C k (wpQuiet P ops C (R (ze1 (o :: l).length k listed)) l) a:=by unfold qOp;simp only[h0];exact h
  obtain⟨v,hy,hK⟩:=yieldsIn_of_qOp h0 hst;exact zmu h0 hk (Region.noSelect_spec hs) l.length listed a (Region.free_spec h0 hf) (by simpa using hr) hy
   (zka hs l (k+1) _ _ (fun j hj=>by have:=hl (j+1) (by simp;omega);simpa [Nat.add_assoc,Nat.add_comm 1 j] using this) hB' hK)
def Shut (md:Region.Mode)(ops:Array Oper)(listed:Array Bool):Prop:=∀(k:Nat) (o:Oper),listed.getD k false=true→ops[k]?=some o→∀e ∈ o.after,Region.binds md e=true→listed.getD e.on false=true
theorem Shut.put {listed:Array Bool}{i:Nat}(h:Shut md ops listed)(hi:i ∈ Region.ready md ops listed):Shut md ops (listed.setIfInBounds i true):=by
 intro k o hk ho e he hb;by_cases hki:i=k
 ·subst hki;obtain⟨_,o',ho',hall⟩:=mem_ready.1 hi;rw[ho] at ho';cases ho'
  exact getD_set_true (hall e he hb)
 ·rw[getD_set_ne false hki] at hk;exact getD_set_true (h k o hk ho e he hb)
theorem zjg {Q:Exit→Act→World→Prop}:∀(fuel:Nat) (listed:Array Bool) (a:Act) (w:World),wpAny P md ops Q fuel listed a w→wpAny P md ops Q (fuel+1) listed a w
 | 0,_,_,_,h=>wpAny_done h.1 h.2 _
 | fuel+1,_,_,_,h=>⟨h.1,fun i hi=>wpOp_mono (fun a' w' h'=>zjg fuel _ a' w' h') (h.2 i hi)⟩
theorem zjl {Q:Exit→Act→World→Prop}{rest:Nat}{listed:Array Bool}{a:Act}{w:World}(h:wpAny P md ops Q rest listed a w):∀d,wpAny P md ops Q (d+rest) listed a w
 | 0=>by simpa using h
 | d+1=>by have:=zjg _ _ _ _ (zjl h d);rwa [show d+1+rest=d+rest+1 by omega]
theorem zmv {Q:Exit→Act→World→Prop}{rest:Nat}{listed:Array Bool}{a:Act}{w:World}(h:wpAny P md ops Q rest listed a w)(h0:Region.ready md ops listed=[]):Q .normal a w:=by
 cases rest with
 | zero=>exact h.2
 | succ r=>exact h.1 h0
end
end
section
open Go Go.RowKit
section
variable {P:Program} {ops:Array Oper} {md:Region.Mode} {C:World→Prop} {m:Nat}
theorem zp7 (hc:Region.chainB md ops m=true){listed:Array Bool}(hS:Shut md ops listed):∀t,m≤t→t<ops.size→listed.getD t false=true→listed.getD m false=true:=by
  simp only[Region.chainB,List.all_eq_true,List.mem_range,Bool.or_eq_true,decide_eq_true_eq] at hc
  intro t
  induction t with
  | zero => intro h1 _ h3; have : m = 0 := by omega
            subst this; exact h3
  | succ t ih =>
    intro h1 h2 h3
    by_cases e:m=t+1
    · rw[e];exact h3
    rcases hc (t+1) h2 with h | h
    · omega
    · obtain⟨oj,hj,e,he,hb,hon⟩:=Region.waitsFor_spec h
      have:=hS (t+1) oj h3 hj e he hb
      rw[hon] at this
      exact ih (by omega) (by omega) this
theorem zna (hs:Region.sinkB md ops m=true){listed:Array Bool}(hS:Shut md ops listed){om:Oper}(hom:ops[m]?=some om)(hall:∀e ∈ om.after,Region.binds md e=true→listed.getD e.on false=true):∀d i,i+d+1=m→listed.getD i false=true:=by
 simp only[Region.sinkB,List.all_eq_true,List.mem_range,List.any_eq_true,Bool.and_eq_true,decide_eq_true_eq] at hs;intro d
 induction d using Nat.strongRecOn with
 | ind d ih =>
  intro i hi;obtain⟨j,hj,hij,hw⟩:=hs i (by omega);obtain⟨oj,hoj,e,he,hb,hon⟩:=Region.waitsFor_spec hw;by_cases hjm:j=m
  ·subst hjm;rw[hom] at hoj;cases hoj
   have:=hall e he hb
   rwa [hon] at this
  ·have hl:=ih (m - 1 - j) (by omega) j (by omega);have:=hS j oj hl hoj e he hb
   rwa [hon] at this
theorem gate2 (hs:Region.sinkB md ops m=true)(hc:Region.chainB md ops m=true)(listed:Array Bool)(j:Nat)(hS:Shut md ops listed)(hj:j ∈ Region.ready md ops listed)(hm:¬j<m):∀i ∈ Region.ready md ops listed,¬i<m:=by
 intro i hi him;obtain⟨_,oj,hoj,hall⟩:=mem_ready.1 hj;have hlt:=(Array.getElem?_eq_some_iff.1 hoj).1;have hmlt:m<ops.size:=by omega
 have hom:ops[m]?=some ops[m]:=Array.getElem?_eq_getElem hmlt;have key:∀e ∈ ops[m].after,Region.binds md e=true→listed.getD e.on false=true:=by
  by_cases e:j=m
  ·subst e;rw[hom] at hoj;cases hoj
   exact hall
  ·have h1:listed.getD m false=true:=by
    have hc':=hc;simp only[Region.chainB,List.all_eq_true,List.mem_range,Bool.or_eq_true,decide_eq_true_eq] at hc';rcases hc' j hlt with h | h
    ·omega
    ·obtain⟨oj',hj',e',he',hb',hon'⟩:=Region.waitsFor_spec h;rw[hoj] at hj';cases hj'
     have:=hall e' he' hb';rw[hon'] at this;exact zp7 hc hS (j - 1) (by omega) (by omega) this
   exact fun e he hb=>hS m ops[m] h1 hom e he hb
 have h2:=zna hs hS hom key (m - 1 - i) i (by omega);have h3:=(mem_ready.1 hi).1;rcases Nat.lt_or_ge i listed.size with h' | h'
 ·simp[h'] at h2 h3;rw[h2] at h3;cases h3
 ·simp[Array.getElem?_eq_none h'] at h2
theorem zfd {R:Array Bool→Act→Prop}{Q:Exit→Act→World→Prop}{rest:Nat}(hg:∀(listed:Array Bool) (j:Nat),Shut md ops listed→j ∈ Region.ready md ops listed→¬j<m→∀i ∈ Region.ready md ops listed,¬i<m):∀(fuel:Nat) (listed:Array Bool) (a:Act) (w:World),Shut md ops listed→C w →
  zhj P md ops C m (fun listed a=>∀w,C w→wpAny P md ops Q rest listed a w) fuel listed a→wpAny P md ops Q (fuel+rest) listed a w
 | 0,_,_,w,_,hw,h=>by simpa using h.2 w hw
 | fuel+1,listed,a,w,hS,hw,h=>by
  rw[show fuel+1+rest=fuel+rest+1 by omega];by_cases hx:∃j ∈ Region.ready md ops listed,¬j<m
  ·obtain⟨j,hj,hjm⟩:=hx;have:=zjl (h.1 (hg _ _ hS hj hjm) w hw) (fuel+1)
   rwa [show fuel+1+rest=fuel+rest+1 by omega] at this
  ·have hall:∀j ∈ Region.ready md ops listed,j<m:=fun j hj=>Classical.byContradiction fun hc=>hx ⟨j,hj,hc⟩;refine⟨fun h0=>?_,fun i hi=>?_⟩
   ·exact zmv (h.1 (by rw[h0];intro i hi;cases hi) w hw) h0
   ·exact wpOp_of_qOp hw (fun a' w' hw' h'=>zfd (R:=R) hg fuel _ a' w' (hS.put hi) hw' h') (h.2 i hi (hall i hi))
def zpr (n:Nat)(l:List Oper):Bool:=decide (n≤l.length)&&Region.noSelect l.toArray&&Region.sinkB .any l.toArray n&&Region.chainB .any l.toArray n&&lexTo .any l.toArray n n 0 (Array.replicate l.length false)&&Region.seqB .any l.toArray (l.length - n) n (ze1 n 0 (Array.replicate l.length false))
theorem zkk {l:List Oper}{id:Nat}{Q:Exit→Act→World→Prop}{a:Act}{w:World}(n:Nat)(hm:P.follows .mixedOrders=true)(hB:zpr n l=true)(hC:C { w with drawn:=w.drawn+1 })
  (h:wpQuiet P l.toArray C (fun a'=>∀w',C w'→wpList P l.toArray Q (l.drop n) a' w') (l.take n) a):(Code.region id l.toArray true).wp P Q a w:=by
 simp only[zpr,Bool.and_eq_true,decide_eq_true_eq] at hB;obtain⟨⟨⟨⟨⟨hn,h1⟩,h2⟩,h3⟩,h4⟩,h5⟩:=hB;have e1:(l.take n).length=n:=by simp;omega
 have e2:(l.drop n).length=l.length - n:=by simp
 refine wp_region_any hm ?_;have key:=zka (P:=P) (C:=C) (md:=.any) (ops:=l.toArray) (m:=n) (R:=fun listed a=>∀w,C w→wpAny P .any l.toArray Q (l.length - n) listed a w) h1 (l.take n) 0 (Array.replicate l.length false) a
  (by intro j hj;rw[e1] at hj;simp[hj]) (by rw[e1];exact h4) (by
   rw[e1];have mono:∀(l':List Oper) (a:Act) (Q1 Q2:Act→Prop),(∀a,Q1 a→Q2 a)→wpQuiet P l.toArray C Q1 l' a→wpQuiet P l.toArray C Q2 l' a:=by
    intro l'
    induction l' with
    | nil=>intro a Q1 Q2 h12 hq;exact h12 a hq
    | cons o l' ih =>
     intro a Q1 Q2 h12 hq;unfold wpQuiet at hq ⊢;split
     ·rename_i hw;rw[if_pos hw] at hq;exact Oper.quiet_mono (fun a' h'=>ih a' Q1 Q2 h12 h') hq
     ·rename_i hw;rw[if_neg hw] at hq;exact ih _ Q1 Q2 h12 hq
   refine mono _ _ _ _ (fun a' ha' w' hw'=>?_) h;have:=wpAny_of_seq (P:=P) (md:=.any) (ops:=l.toArray) (Q':=Q) (l.drop n) n (ze1 n 0 (Array.replicate l.length false)) a' w' (by intro j;simp) (by rw[e2];exact h5) (ha' w' hw')
   rwa [e2] at this)
 have:=zfd (R:=fun _ _=>True) (Q:=Q) (rest:=l.length - n) (gate2 h2 h3) n (Array.replicate l.length false) a { w with drawn:=w.drawn+1 } (by intro k o hk;simp[Array.getElem?_replicate] at hk;split at hk <;> simp_all) hC (by rw[e1] at key;exact key)
 have e3:n+(l.length - n)=l.length:=by omega
 rw[e3] at this
 simpa using this
end
theorem zat {P:Program}{id:Nat}{Q:Exit→Act→World→Prop}{a:Act}{w:World}{l:List Oper}(n:Nat)(hm:P.follows .mixedOrders=true)(hB:zpr n l=true)
  (h:wpQuiet P l.toArray (fun w'=>∃x:Gr w,w'=x.w) (fun a'=>∀w',(∃x:Gr w,w'=x.w)→wpList P l.toArray Q (l.drop n) a' w') (l.take n) a):(Code.region id l.toArray true).wp P Q a w :=
 zkk (C:=fun w'=>∃x:Gr w,w'=x.w) n hm hB ⟨⟨_,(Below.refl _ _).drew⟩,rfl⟩ h
end
section
open Go.RowKit
structure Wk (w:World)(X L:Nat):Prop where
 c0:w.cell? ⟨X,0,none⟩=some (.func (.func 180) #[] #[])
 c1:w.cell? ⟨X,1,none⟩=some (.func (.func 183) #[] #[])
 c2:w.cell? ⟨X,2,none⟩=some (.int .i64 L)
 c3:w.cell? ⟨X,3,none⟩=some (.slice none 0 0)
 f2:w.frozen? ⟨X,2,none⟩=false
theorem Wk.kept {w w':World}{X L:Nat}(h:Wk w X L)(hb:Below w.heap.size w w'):Wk w' X L :=
 ⟨up hb h.c0,up hb h.c1,up hb h.c2,up hb h.c3,by rw[hb.frozen (p:=⟨X,2,none⟩) (by have:=World.block_lt_of_cell? w _ h.c0;exact this)];exact h.f2⟩
theorem Wk.set {w:World}{X L:Nat}(h:Wk w X L)(L':Nat):Wk (w.setCell ⟨X,2,none⟩ (.int .i64 L')) X L' :=
 ⟨by rw[World.cell?_setCell_other _ _ _ _ (by simp)];exact h.c0,by rw[World.cell?_setCell_other _ _ _ _ (by simp)];exact h.c1,World.cell?_setCell_same _ _ _ h.c2,by rw[World.cell?_setCell_other _ _ _ _ (by simp)];exact h.c3,by rw[World.frozen?_setCell];exact h.f2⟩
theorem zrp {s t:Ty}(h:hdEq s t=true):s.len=t.len:=by
 unfold hdEq at h;simp only[Bool.and_eq_true,beq_iff_eq] at h;exact h.2
def Ty.pn (t:Ty):Nat:=za3 (fun i=>(t.ps i).nodes) t.len
theorem zff (t:Ty):t.nodes=1+t.pn:=by
 cases t <;> rfl
def PP (w0:World)(X:Nat)(s t:Ty)(L:Nat)(e:Ending)(w':World):Prop :=
 ∃r:Bool,e=.returned (.bool r)∧r=decide (∀i,i<s.len→(s.ps i).same (t.ps i)=true)∧Below w0.heap.size w0 w'∧∃L',Wk w' X L'∧(r=true→L'+s.pn=L)
theorem PP.intro {w0:World}{X:Nat}{s t:Ty}{L:Nat}{e:Ending}{w':World}(r:Bool)(h1:e=.returned (.bool r))(h2:r=decide (∀i,i<s.len→(s.ps i).same (t.ps i)=true))(h3:Below w0.heap.size w0 w')(L':Nat)(h4:Wk w' X L')(h5:r=true→L'+s.pn=L):PP w0 X s t L e w':=⟨r,h1,h2,h3,L',h4,h5⟩
theorem zqx (w0:World)(X:Nat)(hX:w0.heap.size≤X):∀(s t:Ty) (w:World) (L:Nat),s.At w0→t.At w0→s.len=t.len→s.pn≤L→L≤4000→Wk w X L→Below w0.heap.size w0 w →
  Calls Tryz.prog 223 #[.pointer (some ⟨X,0,none⟩),.slice s.ao s.len s.cap,.slice t.ao t.len t.cap] w fun e w'=>PP w0 X s t L e w':=by
 intro s
 induction s with
 | dm=>intro t w L hs;exact hs.elim
 | mk sk sl sh se sao sb so slen scap sps ih =>
  intro t w L hs ht hl hL h4000 hW hB;rcases t with _ | ⟨tk,tl,th,te,tao,tb,to',tlen,tcap,tps⟩
  ·exact ht.elim
  have hl':slen=tlen:=hl;subst hl';show Calls Tryz.prog 223 #[.pointer (some ⟨X,0,none⟩),.slice sao slen scap,.slice tao slen tcap] w fun e w'=>PP w0 X (.mk sk sl sh se sao sb so slen scap sps) (.mk tk tl th te tao tb to' slen tcap tps) L e w'
  have HL:Hid (za3 (fun i=>(sps i).nodes) slen≤L):=hL;have b1:slen≤9223372036854775807:=hs.bound;have n1:0<slen→sao=some ⟨sb,so,none⟩:=hs.nil;have n2:0<slen→tao=some ⟨tb,to',none⟩:=ht.nil;have HW:Hid (Wk w X L∧Below w0.heap.size w0 w):=⟨hW,hB⟩;clear hL hl hW hB;go_enter Tryz.func223,Tryz.ntmps223
  go_wp2;go_loopw [10] (fun i wr=>∃j l:Nat,j≤slen∧i=.int .i64 j∧(∀i,i<j→(sps i).same (tps i)=true)∧l+za3 (fun i=>(sps i).nodes) j=L∧Wk wr X l∧Below w0.heap.size w0 wr) (fun i _=>slen - (intOf i).toNat)
  case atStart=>exact⟨0,L,Nat.zero_le _,rfl,fun _ h=>absurd h (Nat.not_lt_zero _),rfl,HW.out.1,HW.out.2⟩
  case round =>
   obtain⟨j,l,hj,rfl,hdone,hl,hW,hB⟩:=hrel;clear HW;have HD:Hid ((∀i,i<j→(sps i).same (tps i)=true)∧l+za3 (fun i=>(sps i).nodes) j=L):=⟨hdone,hl⟩;clear hdone;by_cases hlt:j<slen
   ·have ij:(j:Int)<slen:=by omega
    have hsum:=zge (fun i=>(sps i).nodes) hlt;have hnod:=zff (sps j);have hLL:=HL.out;have hl0:1≤l:=by omega
    have HN:Hid ((sps j).pn≤l - 1∧l≤4000∧(sps j).nodes=1+(sps j).pn):=⟨by omega,by omega,hnod⟩;clear hsum hnod hLL hl;have a1:=n1 (by omega);have a2:=n2 (by omega);subst a1 a2;have e0:((l:Int)==0)=false:=by simp;omega
    have k1:=hW.c2;have kf:=hW.f2;have i1:(1:Int)≤l:=by omega
    have i2:(l:Int)≤4000:=by have:=HN.out.2.1;omega
    have W2:Wk (wr.setCell ⟨X,2,none⟩ (.int .i64 ((l:Int) - 1))) X (l - 1):=by
     have:=hW.set (l - 1)
     rwa [show ((l - 1:Nat):Int)=(l:Int) - 1 by omega] at this
    have B2:Below w0.heap.size w0 (wr.setCell ⟨X,2,none⟩ (.int .i64 ((l:Int) - 1))):=hB.setCell hX _;clear hW hB;have C:C5 _ sb (so+j*5) (sps j):=(hs.kept B2).cells hlt;have D:C5 _ tb (to'+j*5) (tps j):=(ht.kept B2).cells hlt;have P:(sps j).At w0:=hs.part hlt;have R:(tps j).At w0:=ht.part hlt;go_wp2;generalize wr.setCell ⟨X,2,none⟩ (.int .i64 ((l:Int) - 1))=w2 at *;cases hq:hdEq (sps j) (tps j)
    ·have k0:=fun x=>Gr.cell x W2.c1;have p0:=fun x=>Gr.cell x C.c0;have p1:=fun x=>Gr.cell x C.c1;have p2:=fun x=>Gr.cell x C.c2;have p3:=fun x=>Gr.cell x C.c3;have p4:=fun x=>Gr.cell x C.c4;have q0:=fun x=>Gr.cell x D.c0;have q1:=fun x=>Gr.cell x D.c1;have q2:=fun x=>Gr.cell x D.c2;have q3:=fun x=>Gr.cell x D.c3;have q4:=fun x=>Gr.cell x D.c4;have hNE:Nonempty (Gr w2):=⟨⟨_,Below.refl _ _⟩⟩;have H1:∀u,Below w0.heap.size w0 u→Calls Tryz.prog 183 #[.agg #[.int .i64 (sps j).k,.int .i64 (sps j).l,.slice (sps j).ao (sps j).len (sps j).cap,.int .i64 (sps j).h,.int .i64 (sps j).e],.agg #[.int .i64 (tps j).k,.int .i64 (tps j).l,.slice (tps j).ao (tps j).len (tps j).cap,.int .i64 (tps j).h,.int .i64 (tps j).e]] u fun e w'=>e=.returned (.bool false)∧Below u.heap.size u w':=fun u hu=>by
      have:=zhg (sps j) (tps j) u (P.kept hu) (R.kept hu)
      rwa [hq] at this
     have HQ:Hid ((sps j).same (tps j)=false):=by show (sps j).same (tps j)=false;rw[ze0,hq];rfl
     clear hq;refine zah (by kernel_rfl) (by kernel_rfl) ?_;repeat (first | go_big_quiet_step ((go_at_call 183;exact Calls.gr _ (H1 _ (Below.next B2 (Gr.bl _))))))
     refine wpQuiet_nil ?_;rintro w4 ⟨x4,rfl⟩;have B4:=x4.bl;generalize x4.w=w4 at B4 ⊢;clear x4 k0 p0 p1 p2 p3 p4 q0 q1 q2 q3 q4 hNE C D P R H1;go_wp2;go_ret;exact PP.intro false rfl (decide_eq_false (fun hh=>absurd (HQ.out.symm.trans (hh j hlt)) (by decide))).symm (Below.next B2 B4) (l - 1) (W2.kept B4) (fun h=>Bool.noConfusion h)
    ·have H1:∀u,Below w0.heap.size w0 u→Calls Tryz.prog 183 #[.agg #[.int .i64 (sps j).k,.int .i64 (sps j).l,.slice (sps j).ao (sps j).len (sps j).cap,.int .i64 (sps j).h,.int .i64 (sps j).e],.agg #[.int .i64 (tps j).k,.int .i64 (tps j).l,.slice (tps j).ao (tps j).len (tps j).cap,.int .i64 (tps j).h,.int .i64 (tps j).e]] u fun e w'=>e=.returned (.bool true)∧Below u.heap.size u w':=fun u hu=>by
      have:=zhg (sps j) (tps j) u (P.kept hu) (R.kept hu)
      rwa [hq] at this
     have H2:=fun u (hu:Wk u X (l - 1)) (hv:Below w0.heap.size w0 u)=>ih j (tps j) u (l - 1) P R (zrp hq) HN.out.1 (by have:=HN.out.2.1;omega) hu hv
     have HQ:Hid ((sps j).same (tps j)=decide (∀i,i<(sps j).len→((sps j).ps i).same ((tps j).ps i)=true)):=by show (sps j).same (tps j)=_;rw[ze0,hq];rfl
     clear hq;have k0:=fun x=>Gr.cell x W2.c1;have k9:=fun x=>Gr.cell x W2.c0;have p0:=fun x=>Gr.cell x C.c0;have p1:=fun x=>Gr.cell x C.c1;have p2:=fun x=>Gr.cell x C.c2;have p3:=fun x=>Gr.cell x C.c3;have p4:=fun x=>Gr.cell x C.c4;have q0:=fun x=>Gr.cell x D.c0;have q1:=fun x=>Gr.cell x D.c1;have q2:=fun x=>Gr.cell x D.c2;have q3:=fun x=>Gr.cell x D.c3;have q4:=fun x=>Gr.cell x D.c4;have hNE:Nonempty (Gr w2):=⟨⟨_,Below.refl _ _⟩⟩;refine zat 34 (by kernel_rfl) (by kernel_rfl) ?_;simp only[List.take,List.drop];repeat (first | go_big_quiet_step ((first | (go_at_call 183;exact Calls.gr _ (H1 _ (Below.next B2 (Gr.bl _)))) | (go_at_call 180;first | with_reducible exact Calls.gr _ (zdh (sps j) _) | with_reducible exact Calls.gr _ (zdh (tps j) _)))))
     refine wpQuiet_nil ?_;rintro w4 ⟨x4,rfl⟩;have B4:=x4.bl;generalize x4.w=w4 at B4 ⊢;clear x4 k0 k9 p0 p1 p2 p3 p4 q0 q1 q2 q3 q4 hNE C D P R H1;have H3:=H2 w4 (W2.kept B4) (Below.next B2 B4);clear H2 W2 B2 B4;go_wp2_with fail
     refine H3.mono ?_;intro e w6 hPP;obtain⟨r,rfl,hr,B6,L6,W6,hr6⟩:=hPP;have HR:Hid (r=decide (∀i,i<(sps j).len→((sps j).ps i).same ((tps j).ps i)=true)∧(r=true→L6+(sps j).pn=l - 1)):=⟨hr,hr6⟩;clear hr hr6 H3;cases r
     ·go_wp2;go_ret;exact PP.intro false rfl (decide_eq_false (fun hh=>absurd ((HR.out.1.trans HQ.out.symm).trans (hh j hlt)) (by decide))).symm B6 L6 W6 (fun h=>Bool.noConfusion h)
     ·go_wp2;go_roundw
      case rel=>exact⟨j+1,L6,by omega,by go_num,fun i hi=>(by
        by_cases e:i=j
        ·subst e;rw[HQ.out,←HR.out.1]
        ·exact HD.out.1 i (by omega)),by have h1:=HD.out.2;have h2:=HR.out.2 (by simp);have h3:=HN.out;simp only[za3];omega,W6,B6⟩
      case measure=>simp[intOf];omega
   ·have e:slen=j:=by omega
    subst e;have dl:¬(slen:Int)<slen:=by omega
    go_wp2;go_ret;exact PP.intro true rfl (decide_eq_true HD.out.1).symm hB l hW (fun _=>HD.out.2)
theorem wk_new (w:World):Wk (w.alloc (.cells #[.func (.func 180) #[] #[],.func (.func 183) #[] #[],.int .i64 4000,.slice none 0 0,.map none] 216)) w.heap.size 4000:=by
 constructor <;> simp
theorem zkj (s t:Ty)(w:World)(hs:s.At w)(ht:t.At w)(hL:s.pn≤4000) :
  Calls Tryz.prog 182 #[.agg #[.int .i64 s.k,.int .i64 s.l,.slice s.ao s.len s.cap,.int .i64 s.h,.int .i64 s.e],.agg #[.int .i64 t.k,.int .i64 t.l,.slice t.ao t.len t.cap,.int .i64 t.h,.int .i64 t.e],.func (.func 180) #[] #[],.func (.func 183) #[] #[]] w fun e w'=>e=.returned (.bool (s.same t))∧Below w.heap.size w w':=by
 obtain⟨X0,Y0,B0⟩:=zi5 w s t;have hs0:=hs.kept B0;have ht0:=ht.kept B0;have K0:=wk_new ((w.alloc (tyO s)).alloc (tyO t));have BK:=zac ((w.alloc (tyO s)).alloc (tyO t)) (.cells #[.func (.func 180) #[] #[],.func (.func 183) #[] #[],.int .i64 4000,.slice none 0 0,.map none] 216);have X1:=X0.kept BK;have Y1:=Y0.kept BK;have sz:((w.alloc (tyO s)).alloc (tyO t)).heap.size=w.heap.size+2:=by rw[alloc_size,alloc_size]
 have HP:=fun u (L:Nat) (hu:Wk u ((w.alloc (tyO s)).alloc (tyO t)).heap.size L) (h1:s.pn≤L) (h2:L≤4000) (h3:s.len=t.len) (hv:Below ((w.alloc (tyO s)).alloc (tyO t)).heap.size ((w.alloc (tyO s)).alloc (tyO t)) u)=>zqx _ _ (Nat.le_refl _) s t u L hs0 ht0 h3 h1 h2 hu hv;rw[sz] at HP K0;unfold tyO at *;have HB:Hid (Below w.heap.size w ((w.alloc (.cells #[.int .i64 s.k,.int .i64 s.l,.slice s.ao s.len s.cap,.int .i64 s.h,.int .i64 s.e] 38)).alloc (.cells #[.int .i64 t.k,.int .i64 t.l,.slice t.ao t.len t.cap,.int .i64 t.h,.int .i64 t.e] 38))):=B0;have HZ:Hid (((w.alloc (.cells #[.int .i64 s.k,.int .i64 s.l,.slice s.ao s.len s.cap,.int .i64 s.h,.int .i64 s.e] 38)).alloc (.cells #[.int .i64 t.k,.int .i64 t.l,.slice t.ao t.len t.cap,.int .i64 t.h,.int .i64 t.e] 38)).heap.size=w.heap.size+2):=sz;clear B0 sz;go_enter Tryz.func182,Tryz.ntmps182
 go_wp2;generalize ((w.alloc (.cells #[.int .i64 s.k,.int .i64 s.l,.slice s.ao s.len s.cap,.int .i64 s.h,.int .i64 s.e] 38)).alloc (.cells #[.int .i64 t.k,.int .i64 t.l,.slice t.ao t.len t.cap,.int .i64 t.h,.int .i64 t.e] 38))=w0 at *;generalize w0.alloc (.cells #[.func (.func 180) #[] #[],.func (.func 183) #[] #[],.int .i64 4000,.slice none 0 0,.map none] 216)=w2 at *;have H1:∀u,Below w0.heap.size w0 u→Calls Tryz.prog 183 #[.agg #[.int .i64 s.k,.int .i64 s.l,.slice s.ao s.len s.cap,.int .i64 s.h,.int .i64 s.e],.agg #[.int .i64 t.k,.int .i64 t.l,.slice t.ao t.len t.cap,.int .i64 t.h,.int .i64 t.e]] u fun e w'=>e=.returned (.bool (hdEq s t))∧Below u.heap.size u w':=fun u hu=>zhg s t u (hs0.kept hu) (ht0.kept hu);have x0:=fun q=>Gr.cell q X1.c0;have x1:=fun q=>Gr.cell q X1.c1;have x2:=fun q=>Gr.cell q X1.c2;have x3:=fun q=>Gr.cell q X1.c3;have x4:=fun q=>Gr.cell q X1.c4;have y0:=fun q=>Gr.cell q Y1.c0;have y1:=fun q=>Gr.cell q Y1.c1;have y2:=fun q=>Gr.cell q Y1.c2;have y3:=fun q=>Gr.cell q Y1.c3;have y4:=fun q=>Gr.cell q Y1.c4;have hNE:Nonempty (Gr w2):=⟨⟨_,Below.refl _ _⟩⟩;clear X0 Y0 X1 Y1;cases hq:hdEq s t
 ·have HQ:Hid (s.same t=false):=by show s.same t=false;rw[ze0,hq];rfl
  rw[hq] at H1;clear hq HP;refine zah (by kernel_rfl) (by kernel_rfl) ?_;repeat (first | go_big_quiet_step ((go_at_call 183;exact Calls.gr _ (H1 _ (Below.next BK (Gr.bl _))))))
  refine wpQuiet_nil ?_;rintro w4 ⟨q4,rfl⟩;have B4:=q4.bl;generalize q4.w=w4 at B4 ⊢;clear q4 x0 x1 x2 x3 x4 y0 y1 y2 y3 y4 hNE H1;go_wp2;go_ret;exact⟨zab HQ.out.symm,Below.next HB.out (Below.next BK B4)⟩
 ·have HQ:Hid (s.same t=decide (∀i,i<s.len→(s.ps i).same (t.ps i)=true)):=by show s.same t=_;rw[ze0,hq];rfl
  have hl:=zrp hq;rw[hq] at H1;have hP:=fun (w5:World) (B5:Below w2.heap.size w2 w5)=>HP w5 4000 (K0.kept B5) hL (Nat.le_refl _) hl ((Below.next BK B5).mono (Nat.le_of_eq HZ.out.symm));clear hl hq HP K0;refine zat 12 (by kernel_rfl) (by kernel_rfl) ?_;simp only[List.take,List.drop];repeat (first | go_big_quiet_step ((first | (go_at_call 183;exact Calls.gr _ (H1 _ (Below.next BK (Gr.bl _)))) | (go_at_call 180;first | with_reducible exact Calls.gr _ (zdh s _) | with_reducible exact Calls.gr _ (zdh t _)))))
  refine wpQuiet_nil ?_;rintro w4 ⟨q4,rfl⟩;have B4:=q4.bl;generalize q4.w=w4 at B4 ⊢;clear q4 x0 x1 x2 x3 x4 y0 y1 y2 y3 y4 hNE H1;have H3:=hP w4 B4;clear hP;go_wp2_with fail
  refine H3.mono ?_;intro e w6 hPP;obtain⟨r,rfl,hr,B6,L6,W6,hr6⟩:=hPP;have HR:Hid (r=decide (∀i,i<s.len→(s.ps i).same (t.ps i)=true)):=hr;clear hr hr6 H3;cases r
  ·go_wp2;go_ret;exact⟨zab (HR.out.trans HQ.out.symm),Below.next HB.out B6⟩
  ·have k2:=W6.c3;go_wp2;go_loopw [10] (fun _ wr=>wr=w6) (fun _ _=>0)
   case atStart=>rfl
   case round =>
    subst hrel;go_wp2;go_ret;exact⟨zab (HR.out.trans HQ.out.symm),Below.next HB.out B6⟩
theorem zln (s t:Ty)(w:World)(hs:s.At w)(ht:t.At w)(hL:s.pn≤1000) :
  Calls Tryz.prog 136 #[.agg #[.int .i64 s.k,.int .i64 s.l,.slice s.ao s.len s.cap,.int .i64 s.h,.int .i64 s.e],.agg #[.int .i64 t.k,.int .i64 t.l,.slice t.ao t.len t.cap,.int .i64 t.h,.int .i64 t.e]] w fun e w'=>e=.returned (.bool (s.same t))∧Below w.heap.size w w':=by
 obtain⟨X0,Y0,B0⟩:=zi5 w s t;have h:=zkj s t _ (hs.kept B0) (ht.kept B0) (Nat.le_trans hL (by decide));unfold tyO at *;go_enter Tryz.func136,Tryz.ntmps136
 go_wp2_with fail
 refine h.mono ?_;rintro e w5 ⟨rfl,hb5⟩;go_wp2;go_ret;exact⟨rfl,Below.next B0 hb5⟩
def zet (N gb go gcap:Nat)(gA:Nat→Option Addr)(gL gC gAB gAO:Nat→Nat)(gB:Nat→Nat→Bool):Grid:=⟨some ⟨gb,go,none⟩,gb,go,N,gcap,gA,gL,gC,gAB,gAO,gB⟩
theorem zha {n:Strs}{gb go gcap:Nat}{gA:Nat→Option Addr}{gL gC gAB gAO:Nat→Nat}{gB:Nat→Nat→Bool}(hF:zae n (zet n.len gb go gcap gA gL gC gAB gAO gB)=true){w:World}(hg:(zet n.len gb go gcap gA gL gC gAB gAO gB).At w){x y:Nat}(hx:x<n.len)(hy:y<n.len) :
  w.cell? ⟨gb,go+x,none⟩=some (.slice (some ⟨gAB x,gAO x,none⟩) n.len (gC x))∧w.cell? ⟨gAB x,gAO x+y,none⟩=some (.bool (gB x y)):=by
 unfold zae at hF;rw[Bool.and_eq_true,Bool.and_eq_true] at hF;obtain⟨e1,e2⟩:=zdg hF.1.2;have hL:gL x=n.len:=e2 x hx;have h1:=hg.row x hx;have h2:gA x=some ⟨gAB x,gAO x,none⟩:=hg.adr x hx (by show 0<gL x;omega)
 have h3:=hg.cell x hx y (by show y<gL x;omega)
 refine⟨?_,h3⟩;have h1':w.cell? ⟨gb,go+x,none⟩=some (.slice (gA x) (gL x) (gC x)):=h1;rw[h1',h2,hL]
theorem zmh (n:Strs)(gb go gcap:Nat)(gA:Nat→Option Addr)(gL gC gAB gAO:Nat→Nat)(gB:Nat→Nat→Bool)(hF:Hid (zae n (zet n.len gb go gcap gA gL gC gAB gAO gB)=true))(a b:Int)(w:World)(hg:(zet n.len gb go gcap gA gL gC gAB gAO gB).At w)(ha:a=-1∨inR n.len a=true)(hb:b=-1∨inR n.len b=true) :
  Calls Tryz.prog 224 #[.agg #[.slice n.ao n.len n.cap,.slice (some ⟨gb,go,none⟩) n.len gcap],.int .i64 a,.int .i64 b] w fun e w'=>e=.returned (.bool (excB gB a b))∧Below w.heap.size w w':=by
 have B0:=zac w (.cells #[.slice n.ao n.len n.cap,.slice (some ⟨gb,go,none⟩) n.len gcap] 25);have hg2:=hg.kept B0;have HE:Hid (excB gB a b=((a==-1)||((b != -1)&&gB a.toNat b.toNat))):=rfl;cases h1:(a==-1)
 ·obtain⟨x,hx,hx1⟩:∃k:Nat,a=k∧k<n.len:=zb6 (by
   rcases ha with h | h
   ·rw[h] at h1;cases h1
   ·exact h)
  cases h2:(b != -1)
  ·have HV:Hid (excB gB a b=false):=by show excB gB a b=false;rw[HE.out,h1,h2];rfl
   clear HE ha hb hx;go_enter Tryz.func224,Tryz.ntmps224
   go_wp2;go_ret;exact⟨zab HV.out.symm,B0⟩
  ·obtain⟨y,hy,hy1⟩:∃k:Nat,b=k∧k<n.len:=zb6 (by
    rcases hb with h | h
    ·rw[h] at h2;cases h2
    ·exact h)
   subst hx hy;have HV:Hid (excB gB x y=gB x y):=by show excB gB x y=gB x y;rw[HE.out,h1,h2];simp
   obtain⟨c0,c1⟩:=zha hF.out hg2 hx1 hy1;have ix:(x:Int)<n.len:=by omega
   have iy:(y:Int)<n.len:=by omega
   clear HE ha hb;go_enter Tryz.func224,Tryz.ntmps224
   go_wp2;go_ret;exact⟨zab HV.out.symm,B0⟩
 ·have HV:Hid (excB gB a b=true):=by show excB gB a b=true;rw[HE.out,h1];rfl
  clear HE ha hb;go_enter Tryz.func224,Tryz.ntmps224
  go_wp2;go_ret;exact⟨zab HV.out.symm,B0⟩
end
section
open Go Go.RowKit
section
variable {P:Program} {ops:Array Oper} {Q:Exit→Act→World→Prop}
theorem zls {o:Oper}{a:Act}(hg:o.guard=none):Region.wanted o (yielded ops a.tmps)=true:=by simp[Region.wanted,hg]
structure Three (P:Program)(ops:Array Oper)(m:Nat)(listed:Array Bool)(oc oa oz:Oper)(ty:TypeId)(zs:List Value)(c d:Nat):Prop where
 hoc:ops[m]?=some oc
 hoa:ops[m+1]?=some oa
 hoz:ops[m+2]?=some oz
 gc:oc.guard=none
 ga:oa.guard=none
 gz:oz.guard=none
 dc:oc.dst=some c
 da:oa.dst=some d
 dz:oz.dst=none
 opa:oa.op=.alloc ty
 opz:oz.op=.store ty (.tmp d) (.tmp c)
 r0:Region.ready .any ops listed=[m,m+1]
 r1:Region.ready .any ops (listed.setIfInBounds m true)=[m+1]
 r2:Region.ready .any ops (listed.setIfInBounds (m+1) true)=[m]
 r3:Region.ready .any ops ((listed.setIfInBounds m true).setIfInBounds (m+1) true)=[m+2]
 r4:Region.ready .any ops (((listed.setIfInBounds m true).setIfInBounds (m+1) true).setIfInBounds (m+2) true)=[]
 hi:(P.info? ty).map (·.size)=some zs.length
 hal:∀u:World,(Instr.alloc ty true (.tuple #[])).run P u=.ok (.pointer (some ⟨u.heap.size,0,none⟩)) (u.alloc (.cells zs.toArray ty))
theorem zmw {u:World}{B:Nat}{zs:List Value}{ty:TypeId}(h:u.heap[B]?=some (.cells zs.toArray ty (0,0))):u.there B 0 zs.length:=fun j hj=>by
 refine⟨?_,?_⟩
 ·simp[World.cell?,h,hj]
 ·simp[World.frozen?,h]
theorem zc7 {B b:Nat}{a:World}(hb:B≤b):∀(vs:List Value) (o:Nat) (w:World),Below B a w→Below B a (w.setCells b o vs)
 | [],_,_,h=>h
 | v :: vs,o,_,h=>zc7 hb vs (o+1) _ (h.setCell hb v)
theorem zc0 {s:Sem Value}{w w':World}{n:Next}(hr:(do pure (Next.value (←s)):Sem Next).run P w=.ok n w'):∃u,n=.value u:=by
 simp only[Sem.run_bind] at hr;cases hq:s.run P w with
 | ok v w2=>rw[hq] at hr;simp only[Result.andThen_ok,Sem.run_pure] at hr;exact⟨v,(Result.ok.inj hr).1.symm⟩
 | halt x w2=>rw[hq] at hr;simp[Result.andThen] at hr
def zbn:List Nat→Array Bool→Array Bool
 | [],l=>l
 | i :: js,l=>zbn js (l.setIfInBounds i true)
def Wd (S:World→Prop):Type:={ u:World // S u }
def Wd.w {S:World→Prop}(x:Wd S):World:=x.1
theorem zhh {o:Oper}{a:Act}{w:World}{K:Act→World→Prop}(t:TypeId)(p x:Operand)(ho:o.op=.store t p x)(hdst:o.dst=none)(B:Nat)(vs c:List Value)(hp:a.eval p=.pointer (some ⟨B,0,none⟩))(hx:a.eval x=.agg vs.toArray)(h1:vs.all (·.oneCell')=true)
  (hb:w.heap[B]?=some (.cells c.toArray t (0,0))) (hl:c.length=vs.length) (hi:(P.info? t).map (·.size)=some vs.toArray.size) (h:K a (w.setCells B 0 vs)):o.wp P a w K Q:=by
 refine wp_store_mid t p x ho B 0 vs.toArray hp hx ?_ hi (by simpa using h1) ?_
 ·have:=zmw hb;rw[hl] at this;simpa using this
 ·rw[hdst];exact h
end
end
section
open Go.RowKit
theorem zdv (w:World)(t:TypeId):∀(vs pre post:List Value),post.length=vs.length→(w.alloc (.cells (pre++post).toArray t)).setCells w.heap.size pre.length vs=w.alloc (.cells (pre++vs).toArray t)
 | [],pre,post,h=>by
  have e:post=[]:=List.eq_nil_of_length_eq_zero h;subst e;rfl
 | v :: vs,pre,[],h=>by simp at h
 | v :: vs,pre,p :: post,h=>by
  rw[World.setCells,World.setCell_alloc_new];have e:((pre++p :: post).toArray.setIfInBounds pre.length v)=((pre++[v])++post).toArray:=by
   apply Array.toList_inj.1
   simp
  have h2:post.length=vs.length:=by simpa using h
  have k:=zdv w t vs (pre++[v]) post h2;rw[e];have e2:(pre++[v]).length=pre.length+1:=by simp
  rw[e2] at k;rw[k];simp
theorem zao {ops:Array Oper}{rest:List Oper}{o1 o2:Oper}{a:Act}{w:World}{Q:Exit→Act→World→Prop}(hg1:o1.guard=none)(hg2:o2.guard=none)(ty:TypeId)(h1:o1.op=.alloc ty)(x y:Operand)(h2:o2.op=.store ty x y)
  (zs:List Value) (hz:(Instr.alloc ty true (.tuple #[])).run Tryz.prog w=.ok (.pointer (some ⟨w.heap.size,0,none⟩)) (w.alloc (.cells zs.toArray ty))) (hd2:o2.dst=none)
  (cells:Array Value) (hx:(a.put o1.dst (.pointer (some ⟨w.heap.size,0,none⟩))).eval x=.pointer (some ⟨w.heap.size,0,none⟩)) (hy:(a.put o1.dst (.pointer (some ⟨w.heap.size,0,none⟩))).eval y=.agg cells)
  (hl:zs.length=cells.size) (hi:(Tryz.prog.info? ty).map (·.size)=some cells.size) (hc:cells.all (·.oneCell')=true)
  (h:wpList Tryz.prog ops Q rest (a.put o1.dst (.pointer (some ⟨w.heap.size,0,none⟩))) (w.alloc (.cells cells ty))):wpList Tryz.prog ops Q (o1 :: o2 :: rest) a w:=by
 refine wpList_plain hg1 fun _ hK=>?_;unfold Oper.wp execOp;simp only[h1,Sem.run_bind,hz,Result.andThen_ok,Sem.run_pure];refine hK _ _ ?_;refine wpList_store_mid hg2 ty x y h2 w.heap.size 0 cells hx hy (fun j hj=>⟨?_,?_⟩) hi hc ?_
 ·have:j<zs.length:=by omega
  show ((w.alloc (.cells zs.toArray ty)).cell? ⟨w.heap.size,0+j,none⟩).isSome=true
  simp[this]
 ·simp
 ·have k:=zdv w ty cells.toList [] zs (by simpa using hl);simp only[List.nil_append,List.length_nil] at k;rw[k,hd2];exact h
theorem zrc {w:World}{k:Nat}{o:Obj}(h:w.heap[k]?=some o):k<w.heap.size:=by
 rcases Nat.lt_or_ge k w.heap.size with h1 | h1
 ·exact h1
 ·rw[Array.getElem?_eq_none h1] at h;cases h
end
section
open Go Go.RowKit
def Blk (w:World)(B:Nat)(c:List Value)(t:TypeId):Prop:=w.heap[B]?=some (.cells c.toArray t (0,0))
theorem Blk.lt {w:World}{B:Nat}{c:List Value}{t:TypeId}(h:Blk w B c t):B<w.heap.size:=zrc h
theorem Blk.kept {w w':World}{B:Nat}{c:List Value}{t:TypeId}(h:Blk w B c t)(hb:Below w.heap.size w w'):Blk w' B c t:=by
 unfold Blk;rw[hb.block B h.lt];exact h
theorem Blk.cell {w:World}{B:Nat}{c:List Value}{t:TypeId}(h:Blk w B c t)(i:Nat){v:Value}(hv:c[i]?=some v):w.cell? ⟨B,i,none⟩=some v:=by
 unfold Blk at h;simp[World.cell?,h,hv]
theorem Blk.frozen {w:World}{B:Nat}{c:List Value}{t:TypeId}(h:Blk w B c t)(i:Nat):w.frozen? ⟨B,i,none⟩=false:=by
 unfold Blk at h;simp[World.frozen?,h]
theorem Blk.there {w:World}{B:Nat}{c:List Value}{t:TypeId}(h:Blk w B c t):w.there B 0 c.length:=zmw h
theorem Blk.range {w:World}{B:Nat}{c:List Value}{t:TypeId}(h:Blk w B c t):w.rangeAt B 0 c:=fun j v hv=>by rw[Nat.zero_add];exact h.cell j hv
theorem Blk.new (w:World)(c:List Value)(t:TypeId):Blk (w.alloc (.cells c.toArray t)) w.heap.size c t:=heap_alloc_new _ _
structure WroteB (w w':World)(B:Nat)(c:List Value)(t:TypeId):Prop where
 blk:Blk w' B c t
 other:∀b,b≠B→w'.heap[b]?=w.heap[b]?
 size:w'.heap.size=w.heap.size
 below:∀{B0:Nat} {a:World},B0≤B→Below B0 a w→Below B0 a w'
theorem WroteB.keep {w w':World}{B B':Nat}{c c':List Value}{t t':TypeId}(h:WroteB w w' B c t)(hb:Blk w B' c' t')(hne:B'≠B):Blk w' B' c' t':=by unfold Blk;rw[h.other _ hne];exact hb
theorem zb9 (b:Nat):∀(vs:List Value) (o:Nat) (w:World) (k:Nat),k≠b→(w.setCells b o vs).heap[k]?=w.heap[k]?
 | [],_,_,_,_=>rfl
 | v :: vs,o,w,k,h=>by
  rw[World.setCells,zb9 b vs (o+1) _ k h,Below.heap_setCell _ _ _ _ h]
theorem zgv (b:Nat):∀(vs:List Value) (o:Nat) (w:World),(w.setCells b o vs).heap.size=w.heap.size
 | [],_,_=>rfl
 | v :: vs,o,w=>by rw[World.setCells,zgv b vs (o+1)];simp[World.setCell]
theorem zhx (t:TypeId):∀(vs pre post:List Value) (w:World) (B:Nat),post.length=vs.length→Blk w B (pre++post) t→Blk (w.setCells B pre.length vs) B (pre++vs) t
 | [],pre,post,w,B,h,hb=>by
  have e:post=[]:=List.eq_nil_of_length_eq_zero h;subst e;exact hb
 | v :: vs,pre,[],w,B,h,hb=>by simp at h
 | v :: vs,pre,p :: post,w,B,h,hb=>by
  rw[World.setCells];have h1:Blk (w.setCell ⟨B,pre.length,none⟩ v) B ((pre++[v])++post) t:=by
   have hl:=hb.lt;unfold Blk at hb ⊢;have e:((pre++p :: post).toArray.setIfInBounds pre.length v)=((pre++[v])++post).toArray:=by
    apply Array.toList_inj.1
    simp
   rw[←e];simp[World.setCell,Array.getElem?_modify,hb]
  have k:=zhx t vs (pre++[v]) post _ B (by simpa using h) h1;rw[show (pre++[v]).length=pre.length+1 by simp] at k
  simpa using k
theorem zd3 {w:World}{B:Nat}{c:List Value}{t:TypeId}(h:Blk w B c t)(vs:List Value)(hl:c.length=vs.length):WroteB w (w.setCells B 0 vs) B vs t :=
 ⟨zhx t vs [] c w B hl (by simpa using h),fun b hb=>zb9 _ _ _ _ _ hb,zgv _ _ _ _,fun hB hb=>zc7 hB _ _ _ hb⟩
theorem zag {w:World}{ops:Array Oper}{rest:List Oper}{o:Oper}{a:Act}{Q:Exit→Act→World→Prop}(hgd:o.guard=none)(hdst:o.dst=none)(t:TypeId)(p x:Operand)(ho:o.op=.store t p x)(B:Nat)(vs:List Value)
  (hp:a.eval p=.pointer (some ⟨B,0,none⟩)) (hx:a.eval x=.agg vs.toArray) (h1:vs.all (·.oneCell')=true) {c:List Value} (hb:Blk w B c t) (hl:c.length=vs.length) (hi:(Tryz.prog.info? t).map (·.size)=some vs.toArray.size)
  (h:∀w',WroteB w w' B vs t→wpList Tryz.prog ops Q rest a w'):wpList Tryz.prog ops Q (o :: rest) a w:=by
 refine wpList_store_mid hgd t p x ho B 0 vs.toArray hp hx ?_ hi (by simpa using h1) ?_
 ·have:=hb.there;rw[hl] at this;simpa using this
 ·rw[hdst];exact h _ (zd3 hb vs hl)
theorem zbe:∀(os:List Obj) (w:World) (i:Nat),i<os.length→(os.foldl World.alloc w).heap[w.heap.size+i]?=os[i]?
 | [],_,i,h=>absurd h (Nat.not_lt_zero i)
 | o :: os,w,0,_=>by
  show (os.foldl World.alloc (w.alloc o)).heap[w.heap.size+0]?=some o
  have key:∀(os:List Obj) (w:World) (k:Nat),k<w.heap.size→(os.foldl World.alloc w).heap[k]?=w.heap[k]?:=by
   intro os
   induction os with
   | nil=>intro w k _;rfl
   | cons o os ih=>intro w k hk;show (os.foldl World.alloc (w.alloc o)).heap[k]?=_;rw[ih _ k (by simp;omega),Below.heap_alloc _ _ _ hk]
  rw[Nat.add_zero,key os _ _ (by simp),heap_alloc_new]
 | o :: os,w,i+1,h=>by
  have:=zbe os (w.alloc o) i (by simpa using h);show (os.foldl World.alloc (w.alloc o)).heap[w.heap.size+(i+1)]?=os[i]?
  rw[alloc_size] at this;rw[←this,show w.heap.size+1+i=w.heap.size+(i+1) by omega]
theorem za9:∀(os:List Obj) (w:World),Below w.heap.size w (os.foldl World.alloc w)
 | [],_=>Below.refl _ _
 | o :: os,w=>Below.next (zac w o) (za9 os (w.alloc o))
theorem zej:∀(os:List Obj) (w:World),(os.foldl World.alloc w).heap.size=w.heap.size+os.length
 | [],_=>rfl
 | o :: os,w=>by
  show (os.foldl World.alloc (w.alloc o)).heap.size=_
  rw[zej os,alloc_size];simp;omega
section
variable {P:Program} {ops:Array Oper} {Q:Exit→Act→World→Prop}
end
def zf2 (Q:Exit→Act→World→Prop)(e:Exit)(a:Act)(w:World):Prop:=(∀c,e≠.panic c)∧Q e a w
end
end Go.Proofs.YtfobijdkoeifjaaGreatDoor
