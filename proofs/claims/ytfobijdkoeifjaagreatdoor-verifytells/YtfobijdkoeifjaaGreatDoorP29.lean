import Derived.Test.YtfobijdkoeifjaaGreatDoorP27
import Derived.Test.YtfobijdkoeifjaaGreatDoorP23
import Derived.Test.YtfobijdkoeifjaaGreatDoorP25
set_option maxRecDepth 100000
set_option maxHeartbeats 32000000
namespace Go.Proofs.YtfobijdkoeifjaaGreatDoor
section
open Go Go.RowKit
theorem zlx {P:Program}(w:World)(dT sT ty elem:TypeId)(k:Nat)(g o dLen dCap:Nat)(a:Addr)(sLen sCap:Nat)(cur:Array Value)(t:TypeId)(m:Nat)(cs:List Value)
  (hu:P.underlying dT=some (.slice elem)) (hs:(P.info? elem).map (·.size)=some k) (hg:w.heap[g]?=some (.cells cur t (0,0))) (hm:m=Nat.min sLen dLen) (hn:cs.length=m*k)
  (hsrc:∀j v,cs[j]?=some v→w.cell? (a.add j)=some v) (hfit:o+cs.length≤cur.size) (h1:∀v ∈ cs,v.oneCell'=true) :
  (Builtin.copy_ #[dT,sT] ty #[.slice (some ⟨g,o,none⟩) dLen dCap,.slice (some a) sLen sCap]).run P w=.ok (goInt m) (w.setRow g (cur.toList.take o++cs++cur.toList.drop (o+cs.length)).toArray):=by
 have hl:=run_loadCells_list (P:=P) w a cs hsrc;have hst:=run_storeCells_at P g o t cs 0 cur w hg (by simpa using hfit) h1;cases hq:P.info? elem with
 | none=>simp[hq] at hs
 | some i =>
  have hi:i.size=k:=by simpa [hq] using hs
  simp[Builtin.copy_,run_underlying hu,Builtin.lenOf,Builtin.firstCells,sizeOf,typeInfo,hq,hi,←hm,←hn,hl,hst]
theorem zkl {P:Program}(w:World)(dT sT ty elem:TypeId)(k:Nat)(d a:Option Addr)(dLen dCap sLen sCap:Nat)(hu:P.underlying dT=some (.slice elem))(hs:(P.info? elem).map (·.size)=some k)(hn:Nat.min sLen dLen=0) :
  (Builtin.copy_ #[dT,sT] ty #[.slice d dLen dCap,.slice a sLen sCap]).run P w=.ok (goInt 0) w:=by
 cases hq:P.info? elem with
 | none=>simp[hq] at hs
 | some i =>
  have hl:∀(x:Addr),(loadCells x 0).run P w=.ok #[] w:=fun x=>by simpa using run_loadCells_list (P:=P) w x [] (by simp)
  cases d <;> cases a <;> simp[Builtin.copy_,run_underlying hu,Builtin.lenOf,Builtin.firstCells,sizeOf,typeInfo,hq,hn,storeCells,hl]
theorem Tryz.sizeTy:(Tryz.prog.info? 38).map (·.size)=some 5:=by kernel_rfl
theorem zqb {w:World}{o:Oper}{a:Act}{K:Act→World→Prop}{Q:Exit→Act→World→Prop}(d s:Operand)
  (ho:o.op=.call { callee:=.builtin .copy,args:=#[d,s],argTypes:=#[36,36] })
  (dp sp:Option Addr) (dLen dCap sLen sCap:Nat) (hd:a.eval d=.slice dp dLen dCap) (hs:a.eval s=.slice sp sLen sCap)
  (g off n:Nat) (ts xs:Nat→Ty) (hg:Blk w g (zai ts n) 38) (m:Nat) (hm:m=Nat.min sLen dLen) (hpos:0<m→dp=some ⟨g,off*5,none⟩∧∃b oo,sp=some ⟨b,oo,none⟩∧∀i,i<m→w.rangeAt b (oo+i*5) (xs i).vs)
  (hfit:off+m≤n) (h:∀w',Blk w' g (zai (fun i=>if i<off then ts i else if i - off<m then xs (i - off) else ts i) n) 38→(∀b,b≠g→w'.heap[b]?=w.heap[b]?)→(∀{B0:Nat} {x:World},B0≤g→Below B0 x w→Below B0 x w')→K (a.put o.dst (goInt m)) w'):o.wp Tryz.prog a w K Q:=by
 have key:(zai ts n).take (off*5)++zai xs m++(zai ts n).drop (off*5+(zai xs m).length)=zai (fun i=>if i<off then ts i else if i - off<m then xs (i - off) else ts i) n:=by
  apply List.ext_getElem?
  intro j;by_cases hj:j<n*5
  ·have e5:j=(j / 5)*5+j % 5:=by omega
   have hq:j % 5<5:=by omega
   have hi:j / 5<n:=by omega
   conv=>rhs;rw[e5,zbj _ n (j / 5) (j % 5) hi hq]
   by_cases h1:j / 5<off
   ·rw[if_pos h1,List.append_assoc,List.getElem?_append_left (by rw[List.length_take,flat_len];omega),List.getElem?_take_of_lt (by omega)]
    conv=>lhs;rw[e5,zbj _ n (j / 5) (j % 5) hi hq]
   ·rw[if_neg h1,List.append_assoc,List.getElem?_append_right (by rw[List.length_take,flat_len];omega),List.length_take,flat_len ts n,show min (off*5) (n*5)=off*5 by omega]
    by_cases h2:j / 5 - off<m
    ·rw[if_pos h2,List.getElem?_append_left (by rw[flat_len];omega)]
     have e6:j - off*5=(j / 5 - off)*5+j % 5:=by omega
     rw[e6,zbj _ m (j / 5 - off) (j % 5) h2 hq]
    ·rw[if_neg h2,List.getElem?_append_right (by rw[flat_len];omega),flat_len,List.getElem?_drop,show off*5+m*5+(j - off*5 - m*5)=j by omega]
     conv=>lhs;rw[e5,zbj _ n (j / 5) (j % 5) hi hq]
  ·rw[List.getElem?_eq_none (by simp[flat_len];omega),List.getElem?_eq_none (by rw[flat_len];omega)]
 have h1c:∀v ∈ zai xs m,v.oneCell'=true:=by
  intro v hv;obtain⟨j,hj⟩:=List.mem_iff_getElem?.1 hv;have hl:j<m*5:=by have:=(List.getElem?_eq_some_iff.1 hj).1;rw[flat_len] at this;exact this
  rw[show j=(j / 5)*5+j % 5 by omega,zbj _ m (j / 5) (j % 5) (by omega) (by omega)] at hj;have:=List.all_eq_true.1 (xs (j / 5)).vs_one v (List.mem_of_getElem? hj);exact this
 by_cases hm0:m=0
 ·subst hm0;have hrun:=zkl (P:=Tryz.prog) w 36 36 o.type 38 5 dp sp dLen dCap sLen sCap Tryz.underlying36 Tryz.sizeTy hm.symm;unfold Oper.wp;simp[execOp,ho,resolve,invoke,builtin,hd,hs,hrun,Result.andThen]
  refine h w ?_ (fun b _=>rfl) (fun _ hb=>hb);rw[←key]
  simpa [zai] using hg
 ·obtain⟨hdp,b,oo,hsp,hsrc⟩:=hpos (by omega);subst hdp;subst hsp;have hrun:=zlx (P:=Tryz.prog) w 36 36 o.type 38 5 g (off*5) dLen dCap ⟨b,oo,none⟩ sLen sCap (zai ts n).toArray 38 m (zai xs m) Tryz.underlying36 Tryz.sizeTy hg hm (flat_len _ _) (fun j v hj=>by
   have hl:j<m*5:=by have:=(List.getElem?_eq_some_iff.1 hj).1;rw[flat_len] at this;exact this
   rw[adp];rw[show j=(j / 5)*5+j % 5 by omega,zbj _ m (j / 5) (j % 5) (by omega) (by omega)] at hj;have:=hsrc (j / 5) (by omega) (j % 5) v hj
   rwa [show oo+j / 5*5+j % 5=oo+j by omega] at this) (by simp[flat_len];omega) h1c
  unfold Oper.wp;simp[execOp,ho,resolve,invoke,builtin,hd,hs,hrun,Result.andThen]
  have hk:=setRow_heap w g _ ((zai ts n).take (off*5)++(zai xs m++(zai ts n).drop (off*5+(zai xs m).length))).toArray 38 _ hg;refine h _ ?_ (fun b hb=>setRow_other w g b _ hb) (fun hB hb=>below_setRow hb hB _);unfold Blk;rw[←key]
  simpa [List.append_assoc,flat_len] using hk
theorem zd7 {w:World}{ops:Array Oper}{rest:List Oper}{o:Oper}{a:Act}{Q:Exit→Act→World→Prop}(hgd:o.guard=none)(d s:Operand)
  (ho:o.op=.call { callee:=.builtin .copy,args:=#[d,s],argTypes:=#[36,36] })
  (dp sp:Option Addr) (dLen dCap sLen sCap:Nat) (hd:a.eval d=.slice dp dLen dCap) (hs:a.eval s=.slice sp sLen sCap)
  (g off n:Nat) (ts xs:Nat→Ty) (hg:Blk w g (zai ts n) 38) (m:Nat) (hm:m=Nat.min sLen dLen) (hpos:0<m→dp=some ⟨g,off*5,none⟩∧∃b oo,sp=some ⟨b,oo,none⟩∧∀i,i<m→w.rangeAt b (oo+i*5) (xs i).vs)
  (hfit:off+m≤n) (h:∀w',Blk w' g (zai (fun i=>if i<off then ts i else if i - off<m then xs (i - off) else ts i) n) 38→(∀b,b≠g→w'.heap[b]?=w.heap[b]?)→(∀{B0:Nat} {x:World},B0≤g→Below B0 x w→Below B0 x w')→wpList Tryz.prog ops Q rest (a.put o.dst (goInt m)) w'):wpList Tryz.prog ops Q (o :: rest) a w :=
 wpList_plain hgd fun _ hK=>zqb d s ho dp sp dLen dCap sLen sCap hd hs g off n ts xs hg m hm hpos hfit (fun w' h1 h2 h3=>hK _ _ (h w' h1 h2 h3))
theorem zlp (n:Nat):(madeCells (Value.agg zT5.toArray).cells (n*5)).toList=zai (fun _=>zaa 0 0) n:=by
 apply List.ext_getElem?
 intro j;by_cases hj:j<n*5
 ·rw[show j=(j / 5)*5+j % 5 by omega,zbj _ n (j / 5) (j % 5) (by omega) (by omega)];have h5:j % 5<5:=by omega
  rw[show (j / 5)*5+j % 5=j by omega];have e:(madeCells (Value.agg zT5.toArray).cells (n*5)).toList[j]?=some ((Value.agg zT5.toArray).cells[j % 5]!):=by
   simp[madeCells,hj,zT5,Value.cells]
  rw[e]
  match j % 5,h5 with
  | 0,_=>rfl
  | 1,_=>rfl
  | 2,_=>rfl
  | 3,_=>rfl
  | 4,_=>rfl
 ·rw[List.getElem?_eq_none (by simp[madeCells];omega),List.getElem?_eq_none (by rw[flat_len];omega)]
theorem zof {w:World}{base:Nat}{e:TypeId}{g n:Nat}{xs:List Value}(h:w.ownsRow base e 5 (.slice (some ⟨g,0,none⟩) n n) n xs):Blk w g xs e:=by
 obtain⟨h0,⟨h1,_⟩ | ⟨g',cap,cur,h1,_,h3,_,_,h6,h7⟩⟩:=h
 ·cases h1
 ·injection h1 with e1 _ e3
  injection e1 with e1
  injection e1 with e1
  subst e1;subst e3;unfold Blk;rw[h3]
  congr 2
  apply Array.toList_inj.1
  rw[←h7,List.take_of_length_le (by simp;omega)]
theorem za5 {w:World}{o:Oper}{a:Act}{K:Act→World→Prop}{Q:Exit→Act→World→Prop}(l c:Operand)(hop:o.op=Op.makeSlice 36 l c)(n:Nat)(hl:a.eval l=.int .i64 (n:Int))(hc:a.eval c=.int .i64 (n:Int))(hn:n≤100000)
  (h:∀w' B,Below w.heap.size w w'→Blk w' B (zai (fun _=>zaa 0 0) n) 38→w.heap.size≤B→K (a.put o.dst (.slice (some ⟨B,0,none⟩) n n)) w'):o.wp Tryz.prog a w K Q:=by
 obtain⟨i0,hi,hz0,hz1,hz2⟩:=info_parts Tryz.infoTy5;obtain⟨w',hrun,r1,r2⟩:=run_make_full (P:=Tryz.prog) w w.heap.size 36 38 i0 _ 5 Tryz.underlying36 hi hz0 hz1 .i64 .i64 n (by rw[hz2];omega) (by unfold maxLen;omega) (Nat.le_refl _)
 unfold Oper.wp;simp[execOp,hop,hl,hc,hrun,Result.andThen]
 refine h w' _ (zce (Below.refl _ _) r2 (fun k hk=>by cases hk)) ?_ (Nat.le_refl _);have:=zof r1;rw[zlp] at this;exact this
def rowT (B n cap:Nat)(d:Nat→Ty):Ty:=.mk 0 0 0 0 (some ⟨B,0,none⟩) B 0 n cap d
theorem zf7 {w:World}{B n cap:Nat}{d:Nat→Ty}(h:Blk w B (zai d n) 38)(hd:∀i,i<n→(d i).At w)(hn:n≤100000):(rowT B n cap d).At w:=by
 refine⟨fun _=>rfl,by show n≤_;omega,fun i hi=>⟨zpm (fun j v hj=>?_),hd i hi⟩⟩
 have hj5:j<5:=(List.getElem?_eq_some_iff.1 hj).1;have:=h.cell (i*5+j) (by rw[zbj d n i j hi hj5];exact hj)
 rwa [show 0+i*5+j=i*5+j by omega]
theorem WroteB.trans {w u x:World}{B:Nat}{c c':List Value}{t:TypeId}(h:WroteB w u B c t)(k:WroteB u x B c' t):WroteB w x B c' t :=
 ⟨k.blk,fun b hb=>(k.other b hb).trans (h.other b hb),k.size.trans h.size,fun hB hb=>k.below hB (h.below hB hb)⟩
theorem zg7 {B:Nat}{t:TypeId}:∀(vs:List Value) (o:Nat) (w:World) (c:List Value),Blk w B c t→o+vs.length≤c.length→WroteB w (w.setCells B o vs) B (c.take o++vs++c.drop (o+vs.length)) t
 | [],o,w,c,h,_=>by
  have e:c.take o++[]++c.drop (o+([]:List Value).length)=c:=by simp
  rw[e];exact⟨h,fun _ _=>rfl,rfl,fun _ hb=>hb⟩
 | v :: vs,o,w,c,h,hl=>by
  have h1:=WroteB.cell1 h o v;have h2:=zg7 vs (o+1) _ _ h1.blk (by simp at hl ⊢;omega)
  have e:=list_seg_step c o v vs (by simpa using hl);have e2:(c.set o v).take (o+1)++vs++(c.set o v).drop (o+1+vs.length)=c.take o++(v :: vs)++c.drop (o+(v :: vs).length):=by simpa using e
  rw[e2] at h2;exact h1.trans h2
def upT (ts:Nat→Ty)(i:Nat)(t:Ty):Nat→Ty:=fun j=>if j=i then t else ts j
theorem ztn (ts:Nat→Ty)(n i:Nat)(t:Ty)(hi:i<n):(zai ts n).take (i*5)++t.vs++(zai ts n).drop (i*5+t.vs.length)=zai (upT ts i t) n:=by
 have h5:t.vs.length=5:=rfl;apply List.ext_getElem?
 intro j;by_cases hj:j<n*5
 ·have e5:j=(j / 5)*5+j % 5:=by omega
  have hq:j % 5<5:=by omega
  have hi2:j / 5<n:=by omega
  conv=>rhs;rw[e5,zbj _ n (j / 5) (j % 5) hi2 hq]
  unfold upT;by_cases h1:j<i*5
  ·rw[if_neg (by omega),List.append_assoc,List.getElem?_append_left (by rw[List.length_take,flat_len];omega),List.getElem?_take_of_lt h1]
   conv=>lhs;rw[e5,zbj _ n (j / 5) (j % 5) hi2 hq]
  ·rw[List.append_assoc,List.getElem?_append_right (by rw[List.length_take,flat_len];omega),List.length_take,flat_len ts n,show min (i*5) (n*5)=i*5 by omega]
   by_cases h2:j<i*5+5
   ·rw[if_pos (by omega),List.getElem?_append_left (by rw[h5];omega)]
    rw[show j - i*5=j % 5 by omega]
   ·rw[if_neg (by omega),List.getElem?_append_right (by rw[h5];omega),h5,List.getElem?_drop,show i*5+5+(j - i*5 - 5)=j by omega]
    conv=>lhs;rw[e5,zbj _ n (j / 5) (j % 5) hi2 hq]
 ·rw[List.getElem?_eq_none (by simp[flat_len,h5];omega),List.getElem?_eq_none (by rw[flat_len];omega)]
theorem za6 {o:Oper}{a:Act}{w:World}{K:Act→World→Prop}{Q:Exit→Act→World→Prop}(p x:Operand)(ho:o.op=.store 38 p x)(hdst:o.dst=none)(B i n:Nat)(ts:Nat→Ty)(t:Ty)(hp:a.eval p=.pointer (some ⟨B,i*5,none⟩))(hx:a.eval x=.agg t.vs.toArray)(hb:Blk w B (zai ts n) 38)(hi:i<n)
  (h:∀w',WroteB w w' B (zai (upT ts i t) n) 38→K a w'):o.wp Tryz.prog a w K Q:=by
 refine wp_store_mid 38 p x ho B (i*5) t.vs.toArray hp hx (fun j hj=>⟨?_,hb.frozen _⟩) (by kernel_rfl) (by simpa using t.vs_one) ?_
 ·have hj5:j<5:=hj;have e:=zbj ts n i j hi hj5;rw[hb.cell (i*5+j) (v:=(ts i).vs[j]'hj5) (by rw[e];exact List.getElem?_eq_getElem _)];rfl
 ·have W:=zg7 (B:=B) (t:=38) t.vs (i*5) w _ hb (by rw[flat_len];show i*5+5≤_;omega)
  rw[ztn ts n i t hi] at W;have e:a.put o.dst undef=a:=by rw[hdst];rfl
  rw[e];exact h _ W
theorem zjy {ops:Array Oper}{rest:List Oper}{o:Oper}{a:Act}{w:World}{Q:Exit→Act→World→Prop}(hgd:o.guard=none)(p x:Operand)(ho:o.op=.store 38 p x)(hdst:o.dst=none)(B i n:Nat)(ts:Nat→Ty)(t:Ty)(hp:a.eval p=.pointer (some ⟨B,i*5,none⟩))(hx:a.eval x=.agg t.vs.toArray)(hb:Blk w B (zai ts n) 38)(hi:i<n)
  (h:∀w',WroteB w w' B (zai (upT ts i t) n) 38→wpList Tryz.prog ops Q rest a w'):wpList Tryz.prog ops Q (o :: rest) a w :=
 wpList_plain hgd fun _ hK=>za6 p x ho hdst B i n ts t hp hx hb hi (fun w' W=>hK _ _ (by have:=h w' W;have e:a.put o.dst undef=a:=by { rw[hdst];rfl };simpa using this))
theorem zr4 {o:Oper}{a:Act}{w:World}{K:Act→World→Prop}{Q:Exit→Act→World→Prop}(ho:o.op=.alloc 44)(h:∀u B,Below w.heap.size w u→Blk u B z_fn 44→w.heap.size≤B→K (a.put o.dst (.pointer (some ⟨B,0,none⟩))) u):o.wp Tryz.prog a w K Q:=by
 unfold Oper.wp execOp;simp only[ho,Sem.run_bind,alloc_fn,Result.andThen_ok,Sem.run_pure];exact h _ _ (zac _ _) (Blk.new _ _ _) (Nat.le_refl _)
structure Cz (w0 w:World)(v:Vp)(g:Rw Bool)(BJ BS:Nat)(tT st sl:Ty)(k p:Int)(h:Cf)(B3:Nat)(u:World):Prop where
 r:Sr w0 v g BJ BS tT st sl k p u
 bl:Below w.heap.size w u
 z:Blk u w.heap.size zT5 38
 b3:Blk u B3 h.vs 44
theorem Cz.kept {w0 w:World}{v:Vp}{g:Rw Bool}{BJ BS:Nat}{tT st sl:Ty}{k p:Int}{h:Cf}{B3:Nat}{u u':World}(H:Cz w0 w v g BJ BS tT st sl k p h B3 u)(hb:Below u.heap.size u u'):Cz w0 w v g BJ BS tT st sl k p h B3 u':=⟨H.r.kept hb,Below.next H.bl hb,H.z.kept hb,H.b3.kept hb⟩
theorem zse (w0:World)(v:Vp)(g:Rw Bool)(BJ BS:Nat)(tT st sl:Ty)(k p:Int)(na:Nat)(w:World)(h:Sr w0 v g BJ BS tT st sl k p w)(hna:v.a=na)(hlt:na<v.c.fs.len)(hc:v.need=(v.c.fs.x na).c.len)(hnd:∀i,i<v.need→(v.tk i).nodes≤1000):Calls Tryz.prog 189 #[.pointer (some ⟨BS,0,none⟩)] w (zei w0.heap.size v.closT w):=by
 have B0:=zac w (.cells #[.int .i64 0,.int .i64 0,.slice none 0 0,.int .i64 0,.int .i64 0] 38);have bZ:Blk (w.alloc (.cells #[.int .i64 0,.int .i64 0,.slice none 0 0,.int .i64 0,.int .i64 0] 38)) w.heap.size zT5 38:=Blk.new w _ _;have H1:=hyd (show (Sr w0 v g BJ BS tT st sl k p (w.alloc (.cells #[.int .i64 0,.int .i64 0,.slice none 0 0,.int .i64 0,.int .i64 0] 38))∧Below w.heap.size w (w.alloc (.cells #[.int .i64 0,.int .i64 0,.slice none 0 0,.int .i64 0,.int .i64 0] 38)))∧Blk (w.alloc (.cells #[.int .i64 0,.int .i64 0,.slice none 0 0,.int .i64 0,.int .i64 0] 38)) w.heap.size zT5 38∧w0.heap.size≤w.heap.size from ⟨⟨h.kept B0,B0⟩,bZ,h.bl.size⟩);have HA:=hyd (show v.a=na∧na<v.c.fs.len∧v.need=(v.c.fs.x na).c.len from ⟨hna,hlt,hc⟩);have HM:=hyd hnd;have HET:Hid ((∀i,i<v.need→blw v.c.n v.c.g (v.tk i) ((v.c.fs.x na).c.ps i)=true)→v.closT=zee v.c.n v.c.g (v.c.fs.x na).fn):=fun hh=>by
  unfold Vp.closT Vp.capsB Vp.sigT Vp.blw;rw[hna,Int.toNat_natCast,if_pos (decide_eq_true hh)]
 have HEF:Hid (∀i,i<v.need→blw v.c.n v.c.g (v.tk i) ((v.c.fs.x na).c.ps i)=false→v.closT=zaa 0 0):=fun i hi hh=>by
  unfold Vp.closT Vp.capsB Vp.blw;rw[hna,Int.toNat_natCast,if_neg];intro k;have:=of_decide_eq_true k i hi;rw[hh] at this;cases this
 have HFA:=hyd (h.jo.c.fs.each na hlt);have HFR:=hyd (h.jo.c.fs.row na hlt);have HNI:=hyd (h.jo.c.fs.nil (by omega));have HTN:=hyd (show (∀i,i<v.need→tT.ao=some ⟨tT.b,tT.o,none⟩)∧tT.len=v.need from ⟨fun i hi=>h.nil hi,h.tl⟩);have hbd:v.need≤9223372036854775807:=by have:=h.t.bound;have:=h.tl;omega
 generalize v.closT=R at *;generalize v.c.fs.x na=hh at *;clear B0 bZ h hna hlt hc hnd;go_enter Tryz.func189,Tryz.ntmps189
 go_upto_region 1 with fail
 generalize w.alloc (.cells #[.int .i64 0,.int .i64 0,.slice none 0 0,.int .i64 0,.int .i64 0] 38)=u1 at *;go_cut [3] (fun c3 wx=>∃B3:Nat,c3=.pointer (some ⟨B3,0,none⟩)∧Hid (Cz w0 w v g BJ BS tT st sl k p hh B3 wx))
 case first =>
  have s0:∀x:Wd (fun q=>Sr w0 v g BJ BS tT st sl k p q),x.w.cell? ⟨BS,0,none⟩=_:=fun x=>x.2.b.cell 0 rfl;have s4:∀x:Wd (fun q=>Sr w0 v g BJ BS tT st sl k p q),x.w.cell? ⟨BS,4,none⟩=some (.int .i64 (na:Int)):=fun x=>by rw[←HA.out.1];exact x.2.b.cell 4 rfl
  have j2:∀x:Wd (fun q=>Sr w0 v g BJ BS tT st sl k p q),x.w.cell? ⟨BJ,2,none⟩=some (.slice (some ⟨v.c.fs.b,v.c.fs.o,none⟩) v.c.fs.len v.c.fs.cap):=fun x=>by rw[←HNI.out];exact x.2.j.b.cell 2 rfl
  have rF:∀u,(∃x:Wd (fun q=>Sr w0 v g BJ BS tT st sl k p q),u=x.w)→u.rangeAt v.c.fs.b (v.c.fs.o+na*18) hh.vs:=fun _ hC=>by obtain⟨x,rfl⟩:=hC;exact zaf HFR.out x.2.bl
  have i0:(na:Int)<v.c.fs.len:=by have:=HA.out.2.1;omega
  have hNE:Nonempty (Wd (fun q=>Sr w0 v g BJ BS tT st sl k p q)):=⟨⟨_,H1.out.1.1⟩⟩;have HV0:=hyd (Below.refl u1.heap.size u1).drew;refine zal (fun q=>Sr w0 v g BJ BS tT st sl k p q) [0,1,2,3,4,5,6,7,8,9,10,11,12,13,14] 2 (by kernel_rfl) rfl (by kernel_rfl) (za7 (by kernel_rfl)) (H1.out.1.1.kept HV0.out) ?_;simp only[List.filterMap,zD,zE];iterate 14 go_big_quiet_step (fail)
  go_big_quiet_want;refine zad 44 (.tmp 19) rfl v.c.fs.b (v.c.fs.o+na*18) (by kernel_rfl) hh.vs _ rF Tryz.underlying44 rfl (by kernel_rfl) ?_;simp only[Act.put,zA,zB,zC];go_big_quiet_on;refine wpQuiet_nil ?_;clear s0 s4 j2 rF i0 hNE;generalize u1.drew=v0 at *;refine wpAnyH_ready (rs:=[15]) (by kernel_rfl) (by simp) ?_;refine AllReadyH.cons rfl (fun K hK=>?_) AllReadyH.nil;rw[if_pos (by rfl)];refine zr4 rfl ?_;intro v1 B3 hb hB hge;have HV1:=hyd (Below.next HV0.out hb);have HB:=hyd (show Blk v1 B3 z_fn 44∧u1.heap.size≤B3 from ⟨hB,by have:=HV0.out.size;omega⟩)
  refine hK.out _ _ (H1.out.1.1.kept HV1.out) (fun _=>?_);clear hK K hb hB hge;go_simp;refine wpAnyH_ready (rs:=[16]) (by kernel_rfl) (by simp) ?_;refine AllReadyH.cons rfl (fun K hK=>?_) AllReadyH.nil;rw[if_pos (by rfl)];refine zam 44 (.tmp 3) (.tmp 20) rfl rfl B3 hh.vs z_fn (by kernel_rfl) (by kernel_rfl) hh.vs_one HB.out.1 rfl (by kernel_rfl) ?_;intro v2 W2;have HV2:=hyd (show Below u1.heap.size u1 v2∧Blk v2 B3 hh.vs 44 from ⟨W2.below HB.out.2 HV1.out,W2.blk⟩);refine hK.out _ _ (H1.out.1.1.kept HV2.out.1) (fun _=>?_);clear hK K W2;refine wpAnyH_done (by kernel_rfl) ?_ _;refine⟨(fun c hc=>by cases hc),?_⟩;go_wp2;go_meet
  case rel=>exact⟨B3,rfl,⟨H1.out.1.1.kept HV2.out.1,Below.next H1.out.1.2 HV2.out.1,H1.out.2.1.kept HV2.out.1,HV2.out.2⟩⟩
 case rest =>
 obtain⟨B3,rfl,H2⟩:=hcut;have HD:=hyd H1.out.2.2;clear H1;have c10:∃ao,wc.cell? ⟨BS,10,none⟩=some (.slice ao v.need tT.cap)∧(∀i,i<v.need→ao=some ⟨tT.b,tT.o,none⟩):=⟨tT.ao,by rw[←HTN.out.2];exact H2.out.r.b.cell 10 rfl,HTN.out.1⟩
 obtain⟨ao,c10,hao⟩:=c10;have HAO:=hyd hao;clear hao;go_wp2;go_loopw [26] (fun i wr=>∃(j:Nat),j≤v.need∧i=.int .i64 j∧Cz w0 w v g BJ BS tT st sl k p hh B3 wr∧∀i,i<j→blw v.c.n v.c.g (v.tk i) (hh.c.ps i)=true) (fun i _=>v.need - (intOf i).toNat)
 case atStart=>exact⟨0,Nat.zero_le _,rfl,H2.out,fun i hi=>absurd hi (Nat.not_lt_zero _)⟩
 case round =>
  clear H2 c10;obtain⟨j,hj,rfl,hB,hall⟩:=hrel;have HB:=hyd hB;have HL:=hyd hall;clear hB hall;by_cases hlt:j<v.need
  ·have ij:(j:Int)<v.need:=by omega
   have hjc:j<hh.c.len:=by rw[←HA.out.2.2];exact hlt
   have ijc:(j:Int)<hh.c.len:=by omega
   have r0:=HB.out.r.row hlt;rw[HAO.out j hlt];have HY:=hyd (zbx (P:=fun i=>blw v.c.n v.c.g (v.tk i) (hh.c.ps i)=true) HL.out);have HF2:=hyd (HEF.out j hlt);have HS:=hyd (show (v.tk j).At w0∧(hh.c.ps j).At w0∧(v.tk j).nodes≤1000 from ⟨HB.out.r.tk0 hlt,HFA.out.c.part hjc,HM.out j hlt⟩);have HRC:=hyd (show wr.rangeAt hh.c.b (hh.c.o+j*5) (hh.c.ps j).vs∧hh.c.ao=some ⟨hh.c.b,hh.c.o,none⟩ from ⟨zaf (zbm HFA.out.c hjc) HB.out.r.bl,HFA.out.c.nil (by omega)⟩);have hbl:∀u,Cz w0 w v g BJ BS tT st sl k p hh B3 u→Calls Tryz.prog 97 #[.pointer (some ⟨BJ,0,none⟩),.agg (v.tk j).vs.toArray,.agg (hh.c.ps j).vs.toArray] u fun e w'=>e=.returned (.bool (blw v.c.n v.c.g (v.tk j) (hh.c.ps j)))∧Below u.heap.size u w':=fun u hu=>zct v.c v.f g BJ (v.tk j) (hh.c.ps j) u hu.r.j (HS.out.1.kept hu.r.bl) (HS.out.2.1.kept hu.r.bl) (Nat.le_trans zea HS.out.2.2);have HBL:=hyd hbl;clear hbl;generalize blw v.c.n v.c.g (v.tk j) (hh.c.ps j)=bb at *;generalize v.tk j=t at *;generalize hh.c.ps j=q at *;go_upto_region 5 with (first | (refine wpList_load_mid rfl 38 (.tmp 29) rfl tT.b (tT.o+j*5) (by kernel_rfl) t.vs _ r0 Tryz.underlying38 rfl (by kernel_rfl) ?_) | (refine zdf rfl rfl rfl 38 rfl (.tmp 28) rfl (.tmp 5) (.tmp 30) rfl zT5 (alloc_ty5 _) rfl (.int .i64 j) (by kernel_rfl) t.vs.toArray (by kernel_rfl) (by kernel_rfl) rfl (by kernel_rfl) (by simpa using t.vs_one) ?_))
   simp only[Act.put,zA,zB,zC];have B1:=zac wr (.cells t.vs.toArray 38);have HU:=hyd (show (Cz w0 w v g BJ BS tT st sl k p hh B3 (wr.alloc (.cells t.vs.toArray 38))∧Below wr.heap.size wr (wr.alloc (.cells t.vs.toArray 38)))∧Blk (wr.alloc (.cells t.vs.toArray 38)) wr.heap.size t.vs 38 from ⟨⟨HB.out.kept B1,B1⟩,Blk.new wr _ _⟩);have HRD:=hyd (zaf HRC.out.1 B1);clear r0 B1;generalize wr.alloc (.cells t.vs.toArray 38)=U at *;generalize wr.heap.size=B5 at *;have s0:=fun x:Gr U=>x.cell (HU.out.1.1.r.b.cell 0 rfl);have q2:∀x:Gr U,x.w.cell? ⟨B3,10,none⟩=some (.slice (some ⟨hh.c.b,hh.c.o,none⟩) hh.c.len hh.c.cap):=fun x=>x.cell (by rw[←HRC.out.2];exact HU.out.1.1.b3.cell 10 rfl)
   have rT:∀u,(∃x:Gr U,u=x.w)→u.rangeAt B5 0 t.vs:=fun _ hC=>by obtain⟨x,rfl⟩:=hC;exact zaf (HU.out.2.range) (Gr.bl x)
   have rQ:∀u,(∃x:Gr U,u=x.w)→u.rangeAt hh.c.b (hh.c.o+j*5) q.vs:=fun _ hC=>by obtain⟨x,rfl⟩:=hC;exact zaf (HRD.out) (Gr.bl x)
   have hb2:∀x:Gr U,Calls Tryz.prog 97 #[.pointer (some ⟨BJ,0,none⟩),.agg t.vs.toArray,.agg q.vs.toArray] x.w fun e w'=>e=.returned (.bool bb)∧Below x.w.heap.size x.w w':=fun x=>HBL.out x.w (HU.out.1.1.kept x.bl);have hNE:Nonempty (Gr U):=⟨⟨_,Below.refl _ _⟩⟩;refine zah (by kernel_rfl) (by kernel_rfl) ?_;iterate 4 go_big_quiet_step (fail)
   go_big_quiet_want;refine zad 38 (.tmp 5) rfl B5 0 (by kernel_rfl) t.vs _ rT Tryz.underlying38 rfl (by kernel_rfl) ?_;simp only[Act.put,zA,zB,zC];go_big_quiet_on;iterate 4 go_big_quiet_step (fail)
   go_big_quiet_want;refine zad 38 (.tmp 39) rfl hh.c.b (hh.c.o+j*5) (by kernel_rfl) q.vs _ rQ Tryz.underlying38 rfl (by kernel_rfl) ?_;simp only[Act.put,zA,zB,zC];go_big_quiet_on;go_big_quiet_step ((go_at_call 97;exact Calls.gr _ (hb2 _)))
   go_big_quiet_step (fail)
   refine wpQuiet_nil ?_;rintro y1 ⟨xg,rfl⟩;have Bg:=xg.bl;generalize xg.w=y1 at Bg ⊢;have HU2:=hyd (HU.out.1.1.kept Bg);clear xg Bg HU s0 q2 rT rQ hb2 hNE HRD HB;cases bb
   ·have HE:=hyd (HF2.out (by simp));have bZ:=HU2.out.z;go_wp2_with (refine zag rfl rfl 38 (.tmp 2) (.tmp 43) rfl w.heap.size (zaa 0 0).vs (by kernel_rfl) (by kernel_rfl) rfl bZ rfl (by kernel_rfl) ?_;intro w2 W2);have rB:=W2.blk.range;exact bodyPost_ret (v:=.agg (zaa 0 0).vs.toArray) (zax (vs:=(zaa 0 0).vs) Tryz.underlying38 rfl (by kernel_rfl) Tryz.results189 rfl rB) rfl (zif HE.out (W2.below (by omega) HU2.out.bl))
   ·have HE:=hyd (HY.out (by simp));clear HL HF2 HBL HRC HS HEF HET;go_wp2;go_roundw
    case rel=>exact⟨j+1,by omega,by go_num,HU2.out,HE.out⟩
    case measure=>simp[intOf];omega
  ·have ij:¬(j:Int)<v.need:=by omega
   have HE:=hyd (HET.out (fun i hi=>HL.out i (by omega)));clear HL HEF HET;go_upto_region 8 with fail
   have s0:=fun x:Gr wr=>x.cell (HB.out.r.b.cell 0 rfl);have j0:=fun x:Gr wr=>x.cell (HB.out.r.j.b.cell 0 rfl);have j1:=fun x:Gr wr=>x.cell (HB.out.r.j.b.cell 1 rfl);have rH:∀u,(∃x:Gr wr,u=x.w)→u.rangeAt B3 0 hh.vs:=fun _ hC=>by obtain⟨x,rfl⟩:=hC;exact zaf (HB.out.b3.range) (Gr.bl x)
   have hNE:Nonempty (Gr wr):=⟨⟨_,Below.refl _ _⟩⟩;refine zat 9 (by kernel_rfl) (by kernel_rfl) ?_;simp only[List.take,List.drop];iterate 8 go_big_quiet_step (fail)
   go_big_quiet_want;refine zad 44 (.tmp 3) rfl B3 0 (by kernel_rfl) hh.vs _ rH Tryz.underlying44 rfl (by kernel_rfl) ?_;simp only[Act.put,zA,zB,zC];go_big_quiet_on;refine wpQuiet_nil ?_;rintro y1 ⟨xg,rfl⟩;have Bg:=xg.bl;generalize xg.w=y1 at Bg ⊢;have H3:=hyd (HB.out.kept Bg);have h0:=zky w0.heap.size v.c.n v.c.g hh y1 H3.out.r.j.c.n H3.out.r.j.c.g (Cf.At.kept H3.out.r.bl HFA.out);rw[←HE.out] at h0;clear xg Bg HB s0 j0 j1 rH hNE ij;go_wp2_with fail
   refine h0.mono ?_;rintro _ y2 ⟨u,rfl,uA,uB,uS,hb⟩;have bZ:=H3.out.z.kept hb;go_wp2_with (refine zag rfl rfl 38 (.tmp 2) (.tmp 54) rfl w.heap.size u.vs (by kernel_rfl) (by kernel_rfl) u.vs_one bZ rfl (by kernel_rfl) ?_;intro w2 W2);have rB:=W2.blk.range;have HX:=HD.out;have HY2:=H3.out.z.lt;exact bodyPost_ret (v:=.agg u.vs.toArray) (zax (vs:=u.vs) Tryz.underlying38 rfl (by kernel_rfl) Tryz.results189 rfl rB) rfl ⟨u,rfl,uA.wrote uB W2 (by omega) (by omega),uB.mono (fun b h=>by omega),uS,W2.below (by omega) (Below.next H3.out.bl hb)⟩
end
end Go.Proofs.YtfobijdkoeifjaaGreatDoor
