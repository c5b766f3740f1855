import Derived.Test.YtfobijdkoeifjaaGreatDoorP37
import Derived.Test.YtfobijdkoeifjaaGreatDoorP36
import Derived.Test.YtfobijdkoeifjaaGreatDoorP18
import Derived.Test.YtfobijdkoeifjaaGreatDoorP14
import Derived.Deep.CutBlock
import Derived.Deep.DeepCutAuto
import Derived.BigQuiet
import Derived.Test.YtfobijdkoeifjaaGreatDoorP8
set_option maxRecDepth 100000
set_option maxHeartbeats 32000000
namespace Go.Proofs.YtfobijdkoeifjaaGreatDoor
section
open Go Go.RowKit
def sfV (p r:Ty)(h x:Int)(cd:Rw In)(v:Value):List Value:=p.vs++(r.vs++[.slice none 0 0,.int .i64 h,.int .i64 x,.int .i64 1,.slice cd.ao cd.len cd.cap,.slice none 0 0,v,.slice none 0 0])
def spV (t:Ty)(b:Nat)(e:Int):List Value:=[.slice t.ao t.len t.cap,.slice (some ⟨b,0,none⟩) 1 1,.int .i64 e]
def stPt (p t:Ty)(b:Nat)(e:Int):Pt:=⟨t,.mk 0 0 0 0 (some ⟨b,0,none⟩) b 0 1 1 (fun _=>p),e⟩
theorem zij (p r:Ty)(h x:Int)(cd:Rw In)(a:Option Addr)(l c:Nat):(sfV p r h x cd (.slice a l c)).all (·.oneCell')=true:=by simp[sfV,Ty.vs,Value.oneCell']
def stD (p r:Ty)(h x:Int)(cd:Rw In)(a:Option Addr)(l c:Nat):Cf:=stCf p r h x cd ⟨a,0,0,l,c,fun _=>⟨.dm,.dm,0⟩⟩
def zK:List Value:=[.slice none 0 0,.slice none 0 0,.slice none 0 0]
def skV (t:Ty):List Value:=[.slice t.ao t.len t.cap]
def SkAt (w:World)(S:Rw Ty):Prop:=Rw.At 1 skV (fun w t=>t.At w∧t.len≤t.cap) w S
theorem zdy (p r:Ty)(h x:Int)(cd:Rw In)(w:World):(Instr.build 44 #[(0,.agg p.vs.toArray),(1,.agg r.vs.toArray),(3,.int .i64 h),(4,.int .i64 x),(5,.int .i64 1),(6,.slice cd.ao cd.len cd.cap)]).run Tryz.prog w=.ok (.agg (sfV p r h x cd (.slice none 0 0)).toArray) w:=by kernel_rfl
theorem znb (t:Ty)(b:Nat)(e:Int)(w:World):(Instr.build 48 #[(0,.slice t.ao t.len t.cap),(1,.slice (some ⟨b,0,none⟩) 1 1),(2,.int .i64 e)]).run Tryz.prog w=.ok (.agg (spV t b e).toArray) w:=by kernel_rfl
theorem zgn (t:Ty)(w:World):(Instr.buildSlice 36 1 #[(0,.agg t.vs.toArray)]).run Tryz.prog w=.ok (.slice (some ⟨w.heap.size,0,none⟩) 1 1) (w.alloc (.cells t.vs.toArray 38)):=by kernel_rfl
theorem zqk (t:Ty)(b:Nat)(e:Int)(w:World):(Instr.buildSlice 41 1 #[(0,.agg (spV t b e).toArray)]).run Tryz.prog w=.ok (.slice (some ⟨w.heap.size,0,none⟩) 1 1) (w.alloc (.cells (spV t b e).toArray 48)):=by kernel_rfl
theorem zqd (f:Cf)(w:World):(Instr.buildSlice 26 1 #[(0,.agg f.vs.toArray)]).run Tryz.prog w=.ok (.slice (some ⟨w.heap.size,0,none⟩) 1 1) (w.alloc (.cells f.vs.toArray 44)):=by kernel_rfl
theorem zdx {o:Oper}{a:Act}{w:World}{K:Act→World→Prop}{Q:Exit→Act→World→Prop}(ho:o.op=.alloc 44)
  (h:K (a.put o.dst (.pointer (some ⟨w.heap.size,0,none⟩))) (w.alloc (.cells z_fn.toArray 44))):o.wp Tryz.prog a w K Q:=by
 unfold Oper.wp execOp;simp only[ho,Sem.run_bind,alloc_fn,Result.andThen_ok,Sem.run_pure];exact h
theorem zex {o:Oper}{a:Act}{w w':World}{v:Value}{K:Act→World→Prop}{Q:Exit→Act→World→Prop}(t:TypeId)(n:Nat)(parts:Array (Nat × Operand))(ho:o.op=.buildSlice t n parts)(vals:Array (Nat × Value))(hv:(parts.map fun (i,x)=>(i,a.eval x))=vals)
  (hs:(Instr.buildSlice t n vals).run Tryz.prog w=.ok v w') (h:K (a.put o.dst v) w'):o.wp Tryz.prog a w K Q:=by
 subst hv;unfold Oper.wp execOp;simp only[ho,Sem.run_bind,hs,Result.andThen_ok,Sem.run_pure];exact h
theorem zoh {ops:Array Oper}{rest:List Oper}{o:Oper}{a:Act}{w w':World}{v:Value}{Q:Exit→Act→World→Prop}(hgd:o.guard=none)(t:TypeId)(n:Nat)(parts:Array (Nat × Operand))(ho:o.op=.buildSlice t n parts)(vals:Array (Nat × Value))(hv:(parts.map fun (i,x)=>(i,a.eval x))=vals)
  (hs:(Instr.buildSlice t n vals).run Tryz.prog w=.ok v w') (h:wpList Tryz.prog ops Q rest (a.put o.dst v) w'):wpList Tryz.prog ops Q (o :: rest) a w :=
 wpList_plain hgd fun _ hK=>zex t n parts ho vals hv hs (hK _ _ h)
theorem zl0 {S E:TypeId}{size bytes:Nat}{z:Value}(hu:Tryz.prog.underlying S=some (.slice E))(hinf:(Tryz.prog.info? E).map (fun i=>(i.zero,i.size,i.bytes))=some (some z,size,bytes))(hzc:z.cells.size=size)(hpos:0<size){w:World}{o:Oper}{a:Act}{K:Act→World→Prop}{Q:Exit→Act→World→Prop}(s x:Operand)
  (hop:o.op=.call { callee:=.builtin .append,args:=#[s,x],argTypes:=#[S,S] }) (base:Nat) (v:Value) (n:Nat) (xs:List Value) (hs:a.eval s=v) (ho:w.ownsRow base E size v n xs) (ao:Option Addr) (m c:Nat) (news:List Value) (hx:a.eval x=.slice ao m c) (hnone:ao=none→m=0∧c=0) (hl:news.length=m*size) (hn:∀a,ao=some a→∀j u,news[j]?=some u→w.cell? (a.add j)=some u) (h1:∀u ∈ news,u.oneCell'=true) (h63:n+m≤maxLen) (hbytes:(n+m)*bytes≤140737488355328) (hb:base≤w.heap.size)
  (h:∀v' w',w'.ownsRow base E size v' (n+m) (xs++news)→w.grownBy w' v.ownBlock→K (a.put o.dst v') w'):o.wp Tryz.prog a w K Q:=by
 obtain⟨v',w',hr,h2,h3⟩:=zf1 hu hinf hzc hpos w o.type base v n xs ho ao m c news hnone hl hn h1 h63 hbytes hb;unfold Oper.wp execOp;simp only[hop,resolve,invoke,builtin,Sem.run_bind,Sem.run_pure,Result.andThen_ok,List.map_toArray,List.map_cons,List.map_nil,hs,hx,hr];exact h v' w' h2 h3
theorem zwy:(Tryz.prog.info? 48).map (fun i=>(i.zero,i.size,i.bytes))=some (some (.agg #[.slice none 0 0,.slice none 0 0,.int .i64 0]),3,56):=by kernel_rfl
structure Sx (w:World)(n:Strs)(g:Grid)(p r:Ty)(u:World):Prop where
 bl:Below w.heap.size w u
 l:Blk u w.heap.size [.slice n.ao n.len n.cap,.slice g.ao g.len g.cap] 25
 p:Blk u (w.heap.size+1) p.vs 38
 r:Blk u (w.heap.size+2) r.vs 38
 k:Blk u (w.heap.size+3) zK 28
theorem Sx.kept {w:World}{n:Strs}{g:Grid}{p r:Ty}{u u':World}(h:Sx w n g p r u)(hb:Below u.heap.size u u'):Sx w n g p r u':=⟨Below.next h.bl hb,h.l.kept hb,h.p.kept hb,h.r.kept hb,h.k.kept hb⟩
structure Sz (w:World)(n:Strs)(g:Grid)(p r:Ty)(e:Int)(cd:Rw In)(S:Rw Ty)(BF:Nat)(j:Nat)(v:Value)(bs:Nat→Nat)(u:World):Prop where
 x:Sx w n g p r u
 bF:Blk u BF (sfV p r (botI n g) (topI n g) cd v) 44
 row:u.ownsRow (BF+1) 48 3 v j (za2 (fun i=>spV (S.x i) (bs i) e) j)
 each:∀i,i<j→BF+1≤bs i∧Blk u (bs i) p.vs 38
 ge:w.heap.size+3<BF
section
variable {w:World} {n:Strs} {g:Grid} {p r:Ty} {e:Int} {cd:Rw In} {S:Rw Ty} {BF:Nat}
theorem Sz.start {u:World}(h:Sx w n g p r u)(hb:Blk u BF (sfV p r (botI n g) (topI n g) cd (.slice none 0 0)) 44)(hg:w.heap.size+3<BF):Sz w n g p r e cd S BF 0 (.slice none 0 0) (fun _=>0) u :=
 ⟨h,hb,World.ownsRow_nil _ _ _ _,fun i hi=>absurd hi (Nat.not_lt_zero i),hg⟩
theorem zdk {w w':World}{B:Nat}{c:List Value}{t:TypeId}{r:Option Nat}(h:Blk w B c t)(hg:w.grownBy w' r)(hr:some B≠r):Blk w' B c t:=by
 unfold Blk;rw[hg.block B h.lt hr];exact h
theorem zgu {f g:Nat→List Value}:∀k,(∀i,i<k→f i=g i)→za2 f k=za2 g k
 | 0,_=>rfl
 | k+1,h=>by
  show za2 f k++f k=za2 g k++g k
  rw[zgu k (fun i hi=>h i (by omega)),h k (by omega)]
theorem Sz.more {j:Nat}{v v':Value}{bs:Nat→Nat}{u w5:World}(h:Sz w n g p r e cd S BF j v bs u)
  (hg:((u.alloc (.cells p.vs.toArray 38)).alloc (.cells (spV (S.x j) u.heap.size e).toArray 48)).grownBy w5 v.ownBlock)
  (ho:w5.ownsRow (BF+1) 48 3 v' (j+1) (za2 (fun i=>spV (S.x i) (bs i) e) j++spV (S.x j) u.heap.size e)):Blk w5 BF (sfV p r (botI n g) (topI n g) cd v) 44∧Sz w n g p r e cd S BF (j+1) v' (fun i=>if i<j then bs i else u.heap.size) (w5.setCell ⟨BF,16,none⟩ v'):=by
 have B1:=zac u (.cells p.vs.toArray 38);have B2:=Below.next B1 (zac (u.alloc (.cells p.vs.toArray 38)) (.cells (spV (S.x j) u.heap.size e).toArray 48));have bN:=(Blk.new u p.vs 38).kept (zac (u.alloc (.cells p.vs.toArray 38)) (.cells (spV (S.x j) u.heap.size e).toArray 48));have hvb:∀k,v.ownBlock=some k→BF+1≤k:=fun k hk=>(owb h.row hk).1;have hge:=h.ge;have ht:∀k,Blk u k p.vs 38→some k≠v.ownBlock:=fun k hb e=>by
  obtain⟨cur,h1⟩:=zh3 h.row e.symm;unfold Blk at hb;rw[h1] at hb
  injection hb with hb
  injection hb with _ hb
  exact absurd hb (by decide)
 have bF5:Blk w5 BF (sfV p r (botI n g) (topI n g) cd v) 44:=zdk (h.bF.kept B2) hg (fun e=>by have:=hvb _ e.symm;omega)
 have W:=zcv (i:=16) bF5 v';have hx:=h.x.kept B2;have nb:∀k,k≤w.heap.size+3→some k≠v.ownBlock:=fun k hk e=>by have:=hvb _ e.symm;omega
 have hbw5:Below w.heap.size w w5:=zce hx.bl hg (fun k hk=>by have:=hvb k hk;omega)
 have hNe:u.heap.size≠BF:=by have:=h.bF.lt;omega
 have hlt:=h.bF.lt;refine⟨bF5,⟨⟨W.below (by omega) hbw5,W.keep (zdk hx.l hg (nb _ (by omega))) (by omega),W.keep (zdk hx.p hg (nb _ (by omega))) (by omega),W.keep (zdk hx.r hg (nb _ (by omega))) (by omega),W.keep (zdk hx.k hg (nb _ (by omega))) (by omega)⟩,W.blk,?_,?_,h.ge⟩⟩
 ·have e':za2 (fun i=>spV (S.x i) (if i<j then bs i else u.heap.size) e) (j+1)=za2 (fun i=>spV (S.x i) (bs i) e) j++spV (S.x j) u.heap.size e:=by
   show za2 (fun i=>spV (S.x i) (if i<j then bs i else u.heap.size) e) j++spV (S.x j) (if j<j then bs j else u.heap.size) e=_
   rw[if_neg (Nat.lt_irrefl _)]
   congr 1
   exact zgu j (fun i hi=>by rw[if_pos hi])
  rw[e'];exact ze8 ho (fun b hb=>W.other b (fun e=>by have:=(owb ho hb).1;omega))
 ·intro i hi;rcases Nat.lt_or_ge i j with h1 | h1
  ·simp only[if_pos h1];obtain⟨h2,h3⟩:=h.each i h1;exact⟨h2,W.keep (zdk (h3.kept B2) hg (ht _ h3)) (by omega)⟩
  ·simp only[if_neg (Nat.not_lt.2 h1)];refine⟨by omega,W.keep (zdk bN hg (fun e=>?_)) hNe⟩;have:=(owb h.row e.symm).2;omega
theorem Sz.kept {j:Nat}{v:Value}{bs:Nat→Nat}{u u':World}(h:Sz w n g p r e cd S BF j v bs u)(hb:Below u.heap.size u u'):Sz w n g p r e cd S BF j v bs u' :=
 ⟨h.x.kept hb,h.bF.kept hb,owk h.row hb,fun i hi=>⟨(h.each i hi).1,(h.each i hi).2.kept hb⟩,h.ge⟩
theorem Sz.pts {j:Nat}{v:Value}{bs:Nat→Nat}{u:World}(h:Sz w n g p r e cd S BF j v bs u)(hj:j≤1000)(hp:p.At w)(he:I64 e)(hS:∀i,i<j→(S.x i).At w∧(S.x i).len≤(S.x i).cap){u':World}(hw:Below w.heap.size w u')(ho:∀k,BF≤k→k<u.heap.size→u'.heap[k]?=u.heap[k]?):∃pt:Rw Pt,v=.slice pt.ao pt.len pt.cap∧StP p e j S.x pt∧(∀i,i<pt.len→(pt.x i).st.len≤(pt.x i).st.cap)∧PtsAt u' pt:=by
 have hrow:=h.row;have lt0:∀i,i<j→bs i<u.heap.size:=fun i hi=>(h.each i hi).2.lt;have pA:∀i,i<j→(stPt p (S.x i) (bs i) e).At u':=fun i hi=>by
  obtain⟨h1,h2⟩:=h.each i hi;have h3:Blk u' (bs i) p.vs 38:=by
   unfold Blk;rw[ho _ (by omega) (lt0 i hi)];exact h2
  refine⟨(hS i hi).1.kept hw,⟨fun _=>rfl,by show (1:Nat)≤_;omega,fun k hk=>?_⟩,he⟩
  have hk0:k=0:=by have:k<1:=hk;omega
  subst hk0;exact⟨⟨h3.cell 0 rfl,h3.cell 1 rfl,h3.cell 2 rfl,h3.cell 3 rfl,h3.cell 4 rfl⟩,hp.kept hw⟩
 obtain⟨hx,⟨rfl,h0⟩ | ⟨gg,cap,cur,rfl,hg,hh,hr⟩⟩:=hrow
 ·refine⟨⟨none,0,0,0,0,fun i=>stPt p (S.x i) (bs i) e⟩,rfl,⟨h0.symm,fun i _=>rfl,fun i _=>⟨rfl,rfl⟩,fun i _=>rfl⟩,fun i hi=>absurd hi (Nat.not_lt_zero _),fun h=>absurd h (Nat.lt_irrefl _),Nat.zero_le _,fun i hi=>absurd hi (Nat.not_lt_zero _),fun i hi=>absurd hi (Nat.not_lt_zero _)⟩
 ·refine⟨⟨some ⟨gg,0,none⟩,gg,0,j,cap,fun i=>stPt p (S.x i) (bs i) e⟩,rfl,⟨rfl,fun i _=>rfl,fun i _=>⟨rfl,rfl⟩,fun i _=>rfl⟩,fun i hi=>(hS i hi).2,⟨fun _=>rfl,by show j≤_;omega,fun i hi=>?_,fun i hi=>pA i hi⟩⟩
  intro q v hv;have hi':i<j:=hi;have hq:q<3:=(List.getElem?_eq_some_iff.1 hv).1;have hlt:=(Array.getElem?_eq_some_iff.1 hh).1;have e':u'.cell? ⟨gg,0+i*3+q,none⟩=u.cell? ⟨gg,0+i*3+q,none⟩:=World.cell?_of_block (w:=u) (ho gg (by omega) hlt);show u'.cell? ⟨gg,0+i*3+q,none⟩=some v
  rw[e',Nat.zero_add,h.row.cellAt (i*3+q) (by omega),zhc (f:=fun i=>spV (S.x i) (bs i) e) (c:=3) (fun i=>rfl) j i q hi' hq];exact hv
end
def StR (n:Strs)(g:Grid)(p r:Ty)(e:Int)(cd:Rw In)(S:Rw Ty)(w:World)(x:Ending)(w':World):Prop:=∃(b:Nat) (pt:Rw Pt),x=.returned (.agg #[.slice n.ao n.len n.cap,.slice g.ao g.len g.cap,.slice (some ⟨b,0,none⟩) 1 1])∧(stKl n g b (stCf p r (botI n g) (topI n g) cd pt)).At w'∧StP p e cd.len S.x pt∧(∀i,i<pt.len→(pt.x i).st.len≤(pt.x i).st.cap)∧Below w.heap.size w w'
theorem zfh (n:Strs)(g:Grid)(p r:Ty)(e:Int)(cd:Rw In)(S:Rw Ty)(w:World)(hn:n.At w)(hg:g.At w)(hp:p.At w)(hr:r.At w)(he:I64 e)(hcd:InsAt w cd)(hS:SkAt w S)(hl:S.len=cd.len)(hf:cd.len≤1000):Calls Tryz.prog 23 #[.agg #[.slice n.ao n.len n.cap,.slice g.ao g.len g.cap],.agg p.vs.toArray,.agg r.vs.toArray,.int .i64 e,.slice cd.ao cd.len cd.cap,.slice S.ao S.len S.cap] w (StR n g p r e cd S w):=by
 have A0:=za9 [.cells #[.slice n.ao n.len n.cap,.slice g.ao g.len g.cap] 25,.cells p.vs.toArray 38,.cells r.vs.toArray 38,.cells zK.toArray 28] w;have A1:=zbe [.cells #[.slice n.ao n.len n.cap,.slice g.ao g.len g.cap] 25,.cells p.vs.toArray 38,.cells r.vs.toArray 38,.cells zK.toArray 28] w;simp only[List.foldl] at A0 A1;have HU:=hyd (show Sx w n g p r _ from ⟨A0,A1 0 (by simp),A1 1 (by simp),A1 2 (by simp),A1 3 (by simp)⟩);have HD:=hyd (show n.At w∧g.At w∧(p.At w∧r.At w)∧I64 e∧InsAt w cd∧SkAt w S∧S.len=cd.len∧cd.len≤1000 from ⟨hn,hg,⟨hp,hr⟩,he,hcd,hS,hl,hf⟩);rw[hl];unfold zK at HU;clear A0 A1 hn hg hp hr he hcd hS hl hf;go_enter Tryz.func23,Tryz.ntmps23
 go_upto_region 1 with fail
 generalize ((((w.alloc (.cells #[.slice n.ao n.len n.cap,.slice g.ao g.len g.cap] 25)).alloc (.cells p.vs.toArray 38)).alloc (.cells r.vs.toArray 38)).alloc (.cells #[.slice none 0 0,.slice none 0 0,.slice none 0 0] 28))=U at *;go_cut [13] (fun c13 wx=>∃BF:Nat,c13=.pointer (some ⟨BF,0,none⟩)∧Hid (Sz w n g p r e cd S BF 0 (.slice none 0 0) (fun _=>0) wx))
 case first =>
  have rP:∀u,(∃x:Wd (fun q=>Below U.heap.size U q),u=x.w)→u.rangeAt (w.heap.size+1) 0 p.vs:=fun _ hC=>by obtain⟨x,rfl⟩:=hC;exact (HU.out.kept x.2).p.range
  have rR:∀u,(∃x:Wd (fun q=>Below U.heap.size U q),u=x.w)→u.rangeAt (w.heap.size+2) 0 r.vs:=fun _ hC=>by obtain⟨x,rfl⟩:=hC;exact (HU.out.kept x.2).r.range
  have l0:∀x:Wd (fun q=>Below U.heap.size U q),x.w.cell? ⟨w.heap.size,0,none⟩=some (.slice n.ao n.len n.cap):=fun x=>(HU.out.kept x.2).l.cell 0 rfl;have l1:∀x:Wd (fun q=>Below U.heap.size U q),x.w.cell? ⟨w.heap.size,1,none⟩=some (.slice g.ao g.len g.cap):=fun x=>(HU.out.kept x.2).l.cell 1 rfl;have hNE:Nonempty (Wd (fun q=>Below U.heap.size U q)):=⟨⟨_,Below.refl _ _⟩⟩;have HV0:=hyd (Below.refl U.heap.size U).drew;refine zal (fun q=>Below U.heap.size U q) [0,1,2,4,6] 5 (by kernel_rfl) rfl (by kernel_rfl) (za7 (by kernel_rfl)) HV0.out ?_;simp only[List.filterMap,zD,zE];go_big_quiet_want;refine zad 38 (.tmp 7) rfl (w.heap.size+1) 0 (by kernel_rfl) p.vs _ rP Tryz.underlying38 rfl (by kernel_rfl) ?_;simp only[Act.put,zA,zB,zC];go_big_quiet_on;go_big_quiet_want;refine zad 38 (.tmp 8) rfl (w.heap.size+2) 0 (by kernel_rfl) r.vs _ rR Tryz.underlying38 rfl (by kernel_rfl) ?_;simp only[Act.put,zA,zB,zC];go_big_quiet_on;iterate 3 go_big_quiet_step (fail)
  refine wpQuiet_nil ?_;clear rP rR l0 l1 hNE;generalize U.drew=v0 at *;refine wpAnyH_ready (rs:=[3,8]) (by kernel_rfl) (by simp) ?_;refine AllReadyH.cons rfl (fun K hK=>?_) (AllReadyH.cons rfl (fun K hK=>?_) AllReadyH.nil)
  ·rw[if_pos (by rfl)];go_simp;refine (zev n g v0 (HD.out.1.kept (Below.next HU.out.bl HV0.out)) (HD.out.2.1.kept (Below.next HU.out.bl HV0.out))).mono ?_;rintro _ v1 ⟨rfl,hb⟩;have HV1:=hyd (Below.next HV0.out hb);refine hK.out _ _ HV1.out (fun _=>?_);clear hK K hb
   try simp only[Act.put,List.getElem_toArray,List.getElem_cons_zero,List.getElem_cons_succ,zA,zB,zC]
   refine wpAnyH_ready (rs:=[5,8]) (by kernel_rfl) (by simp) ?_;refine AllReadyH.cons rfl (fun K hK=>?_) (AllReadyH.cons rfl (fun K hK=>?_) AllReadyH.nil)
   ·rw[if_pos (by rfl)];go_simp;refine (zkh n g v1 (HD.out.1.kept (Below.next HU.out.bl HV1.out)) (HD.out.2.1.kept (Below.next HU.out.bl HV1.out))).mono ?_;rintro _ v2 ⟨rfl,hb⟩;have HV2:=hyd (Below.next HV1.out hb);refine hK.out _ _ HV2.out (fun _=>?_);clear hK K hb
    try simp only[Act.put,List.getElem_toArray,List.getElem_cons_zero,List.getElem_cons_succ,zA,zB,zC]
    refine wpAnyH_ready (rs:=[7,8]) (by kernel_rfl) (by simp) ?_;refine AllReadyH.cons rfl (fun K hK=>?_) (AllReadyH.cons rfl (fun K hK=>?_) AllReadyH.nil)
    ·rw[if_pos (by rfl)];refine zcr 44 #[(0,.tmp 15),(1,.tmp 16),(3,.tmp 18),(4,.tmp 20),(5,.const (.int .i64 1)),(6,.tmp 21)] rfl #[(0,.agg p.vs.toArray),(1,.agg r.vs.toArray),(3,.int .i64 (botI n g)),(4,.int .i64 (topI n g)),(5,.int .i64 1),(6,.slice cd.ao cd.len cd.cap)] (by kernel_rfl) (zdy p r (botI n g) (topI n g) cd v2) ?_;refine hK.out _ _ HV2.out (fun _=>?_)
     try simp only[Act.put,List.getElem_toArray,List.getElem_cons_zero,List.getElem_cons_succ,zA,zB,zC]
     clear hK K;refine wpAnyH_ready (rs:=[8]) (by kernel_rfl) (by simp) ?_;refine AllReadyH.cons rfl (fun K hK=>?_) AllReadyH.nil;rw[if_pos (by rfl)];have hb:=zac v2 (.cells z_fn.toArray 44);have HA3:=hyd (show Blk (v2.alloc (.cells z_fn.toArray 44)) v2.heap.size z_fn 44∧U.heap.size≤v2.heap.size from ⟨Blk.new v2 _ _,HV2.out.size⟩);have HV3:=hyd (Below.next HV2.out hb);refine zdx rfl ?_;refine hK.out _ _ HV3.out (fun _=>?_);clear hb hK K;generalize v2.alloc (.cells z_fn.toArray 44)=v3 at *;generalize v2.heap.size=BA at *
     try simp only[Act.put,List.getElem_toArray,List.getElem_cons_zero,List.getElem_cons_succ,zA,zB,zC]
     refine wpAnyH_ready (rs:=[9]) (by kernel_rfl) (by simp) ?_;refine AllReadyH.cons rfl (fun K hK=>?_) AllReadyH.nil;rw[if_pos (by rfl)];refine zbb 44 (.tmp 13) (.tmp 22) rfl rfl BA (sfV p r (botI n g) (topI n g) cd (.slice none 0 0)) z_fn (by kernel_rfl) (by kernel_rfl) (zij _ _ _ _ _ none 0 0) HA3.out.1 rfl (by kernel_rfl) ?_;intro w8 W8;have HW:=hyd (show Below U.heap.size U w8 from W8.below HA3.out.2 HV3.out);have HL8:=hyd (show U.heap.size≤BA from HA3.out.2);refine hK.out _ _ HW.out (fun _=>?_);clear hK K;refine wpAnyH_done (by kernel_rfl) ?_ _;refine⟨(fun c hc=>by cases hc),?_⟩;go_wp2;go_meet
     case rel=>exact⟨BA,rfl,Sz.start (Sx.kept HU.out HW.out) W8.blk (by have:=HU.out.k.lt;have:=HL8.out;omega)⟩
    ·rw[if_pos (by rfl)];have hb:=zac v2 (.cells z_fn.toArray 44);have HA3:=hyd (show Blk (v2.alloc (.cells z_fn.toArray 44)) v2.heap.size z_fn 44∧U.heap.size≤v2.heap.size from ⟨Blk.new v2 _ _,HV2.out.size⟩);have HV3:=hyd (Below.next HV2.out hb);refine zdx rfl ?_;refine hK.out _ _ HV3.out (fun _=>?_);clear hb hK K;generalize v2.alloc (.cells z_fn.toArray 44)=v3 at *;generalize v2.heap.size=BA at *
     try simp only[Act.put,List.getElem_toArray,List.getElem_cons_zero,List.getElem_cons_succ,zA,zB,zC]
     refine wpAnyH_ready (rs:=[7]) (by kernel_rfl) (by simp) ?_;refine AllReadyH.cons rfl (fun K hK=>?_) AllReadyH.nil;rw[if_pos (by rfl)];refine zcr 44 #[(0,.tmp 15),(1,.tmp 16),(3,.tmp 18),(4,.tmp 20),(5,.const (.int .i64 1)),(6,.tmp 21)] rfl #[(0,.agg p.vs.toArray),(1,.agg r.vs.toArray),(3,.int .i64 (botI n g)),(4,.int .i64 (topI n g)),(5,.int .i64 1),(6,.slice cd.ao cd.len cd.cap)] (by kernel_rfl) (zdy p r (botI n g) (topI n g) cd v3) ?_;refine hK.out _ _ HV3.out (fun _=>?_)
     try simp only[Act.put,List.getElem_toArray,List.getElem_cons_zero,List.getElem_cons_succ,zA,zB,zC]
     clear hK K;refine wpAnyH_ready (rs:=[9]) (by kernel_rfl) (by simp) ?_;refine AllReadyH.cons rfl (fun K hK=>?_) AllReadyH.nil;rw[if_pos (by rfl)];refine zbb 44 (.tmp 13) (.tmp 22) rfl rfl BA (sfV p r (botI n g) (topI n g) cd (.slice none 0 0)) z_fn (by kernel_rfl) (by kernel_rfl) (zij _ _ _ _ _ none 0 0) HA3.out.1 rfl (by kernel_rfl) ?_;intro w8 W8;have HW:=hyd (show Below U.heap.size U w8 from W8.below HA3.out.2 HV3.out);have HL8:=hyd (show U.heap.size≤BA from HA3.out.2);refine hK.out _ _ HW.out (fun _=>?_);clear hK K;refine wpAnyH_done (by kernel_rfl) ?_ _;refine⟨(fun c hc=>by cases hc),?_⟩;go_wp2;go_meet
     case rel=>exact⟨BA,rfl,Sz.start (Sx.kept HU.out HW.out) W8.blk (by have:=HU.out.k.lt;have:=HL8.out;omega)⟩
   ·rw[if_pos (by rfl)];have hb:=zac v1 (.cells z_fn.toArray 44);have HA2:=hyd (show Blk (v1.alloc (.cells z_fn.toArray 44)) v1.heap.size z_fn 44∧U.heap.size≤v1.heap.size from ⟨Blk.new v1 _ _,HV1.out.size⟩);have HV2:=hyd (Below.next HV1.out hb);refine zdx rfl ?_;refine hK.out _ _ HV2.out (fun _=>?_);clear hb hK K;generalize v1.alloc (.cells z_fn.toArray 44)=v2 at *;generalize v1.heap.size=BA at *
    try simp only[Act.put,List.getElem_toArray,List.getElem_cons_zero,List.getElem_cons_succ,zA,zB,zC]
    refine wpAnyH_ready (rs:=[5]) (by kernel_rfl) (by simp) ?_;refine AllReadyH.cons rfl (fun K hK=>?_) AllReadyH.nil;rw[if_pos (by rfl)];go_simp;refine (zkh n g v2 (HD.out.1.kept (Below.next HU.out.bl HV2.out)) (HD.out.2.1.kept (Below.next HU.out.bl HV2.out))).mono ?_;rintro _ v3 ⟨rfl,hb⟩;have HV3:=hyd (Below.next HV2.out hb);have HA3:=hyd (show Blk v3 BA z_fn 44∧U.heap.size≤BA from ⟨HA2.out.1.kept hb,HA2.out.2⟩);refine hK.out _ _ HV3.out (fun _=>?_);clear hK K hb
    try simp only[Act.put,List.getElem_toArray,List.getElem_cons_zero,List.getElem_cons_succ,zA,zB,zC]
    refine wpAnyH_ready (rs:=[7]) (by kernel_rfl) (by simp) ?_;refine AllReadyH.cons rfl (fun K hK=>?_) AllReadyH.nil;rw[if_pos (by rfl)];refine zcr 44 #[(0,.tmp 15),(1,.tmp 16),(3,.tmp 18),(4,.tmp 20),(5,.const (.int .i64 1)),(6,.tmp 21)] rfl #[(0,.agg p.vs.toArray),(1,.agg r.vs.toArray),(3,.int .i64 (botI n g)),(4,.int .i64 (topI n g)),(5,.int .i64 1),(6,.slice cd.ao cd.len cd.cap)] (by kernel_rfl) (zdy p r (botI n g) (topI n g) cd v3) ?_;refine hK.out _ _ HV3.out (fun _=>?_)
    try simp only[Act.put,List.getElem_toArray,List.getElem_cons_zero,List.getElem_cons_succ,zA,zB,zC]
    clear hK K;refine wpAnyH_ready (rs:=[9]) (by kernel_rfl) (by simp) ?_;refine AllReadyH.cons rfl (fun K hK=>?_) AllReadyH.nil;rw[if_pos (by rfl)];refine zbb 44 (.tmp 13) (.tmp 22) rfl rfl BA (sfV p r (botI n g) (topI n g) cd (.slice none 0 0)) z_fn (by kernel_rfl) (by kernel_rfl) (zij _ _ _ _ _ none 0 0) HA3.out.1 rfl (by kernel_rfl) ?_;intro w8 W8;have HW:=hyd (show Below U.heap.size U w8 from W8.below HA3.out.2 HV3.out);have HL8:=hyd (show U.heap.size≤BA from HA3.out.2);refine hK.out _ _ HW.out (fun _=>?_);clear hK K;refine wpAnyH_done (by kernel_rfl) ?_ _;refine⟨(fun c hc=>by cases hc),?_⟩;go_wp2;go_meet
    case rel=>exact⟨BA,rfl,Sz.start (Sx.kept HU.out HW.out) W8.blk (by have:=HU.out.k.lt;have:=HL8.out;omega)⟩
  ·rw[if_pos (by rfl)];have hb:=zac v0 (.cells z_fn.toArray 44);have HA1:=hyd (show Blk (v0.alloc (.cells z_fn.toArray 44)) v0.heap.size z_fn 44∧U.heap.size≤v0.heap.size from ⟨Blk.new v0 _ _,HV0.out.size⟩);have HV1:=hyd (Below.next HV0.out hb);refine zdx rfl ?_;refine hK.out _ _ HV1.out (fun _=>?_);clear hb hK K;generalize v0.alloc (.cells z_fn.toArray 44)=v1 at *;generalize v0.heap.size=BA at *
   try simp only[Act.put,List.getElem_toArray,List.getElem_cons_zero,List.getElem_cons_succ,zA,zB,zC]
   refine wpAnyH_ready (rs:=[3]) (by kernel_rfl) (by simp) ?_;refine AllReadyH.cons rfl (fun K hK=>?_) AllReadyH.nil;rw[if_pos (by rfl)];go_simp;refine (zev n g v1 (HD.out.1.kept (Below.next HU.out.bl HV1.out)) (HD.out.2.1.kept (Below.next HU.out.bl HV1.out))).mono ?_;rintro _ v2 ⟨rfl,hb⟩;have HV2:=hyd (Below.next HV1.out hb);have HA2:=hyd (show Blk v2 BA z_fn 44∧U.heap.size≤BA from ⟨HA1.out.1.kept hb,HA1.out.2⟩);refine hK.out _ _ HV2.out (fun _=>?_);clear hK K hb
   try simp only[Act.put,List.getElem_toArray,List.getElem_cons_zero,List.getElem_cons_succ,zA,zB,zC]
   refine wpAnyH_ready (rs:=[5]) (by kernel_rfl) (by simp) ?_;refine AllReadyH.cons rfl (fun K hK=>?_) AllReadyH.nil;rw[if_pos (by rfl)];go_simp;refine (zkh n g v2 (HD.out.1.kept (Below.next HU.out.bl HV2.out)) (HD.out.2.1.kept (Below.next HU.out.bl HV2.out))).mono ?_;rintro _ v3 ⟨rfl,hb⟩;have HV3:=hyd (Below.next HV2.out hb);have HA3:=hyd (show Blk v3 BA z_fn 44∧U.heap.size≤BA from ⟨HA2.out.1.kept hb,HA2.out.2⟩);refine hK.out _ _ HV3.out (fun _=>?_);clear hK K hb
   try simp only[Act.put,List.getElem_toArray,List.getElem_cons_zero,List.getElem_cons_succ,zA,zB,zC]
   refine wpAnyH_ready (rs:=[7]) (by kernel_rfl) (by simp) ?_;refine AllReadyH.cons rfl (fun K hK=>?_) AllReadyH.nil;rw[if_pos (by rfl)];refine zcr 44 #[(0,.tmp 15),(1,.tmp 16),(3,.tmp 18),(4,.tmp 20),(5,.const (.int .i64 1)),(6,.tmp 21)] rfl #[(0,.agg p.vs.toArray),(1,.agg r.vs.toArray),(3,.int .i64 (botI n g)),(4,.int .i64 (topI n g)),(5,.int .i64 1),(6,.slice cd.ao cd.len cd.cap)] (by kernel_rfl) (zdy p r (botI n g) (topI n g) cd v3) ?_;refine hK.out _ _ HV3.out (fun _=>?_)
   try simp only[Act.put,List.getElem_toArray,List.getElem_cons_zero,List.getElem_cons_succ,zA,zB,zC]
   clear hK K;refine wpAnyH_ready (rs:=[9]) (by kernel_rfl) (by simp) ?_;refine AllReadyH.cons rfl (fun K hK=>?_) AllReadyH.nil;rw[if_pos (by rfl)];refine zbb 44 (.tmp 13) (.tmp 22) rfl rfl BA (sfV p r (botI n g) (topI n g) cd (.slice none 0 0)) z_fn (by kernel_rfl) (by kernel_rfl) (zij _ _ _ _ _ none 0 0) HA3.out.1 rfl (by kernel_rfl) ?_;intro w8 W8;have HW:=hyd (show Below U.heap.size U w8 from W8.below HA3.out.2 HV3.out);have HL8:=hyd (show U.heap.size≤BA from HA3.out.2);refine hK.out _ _ HW.out (fun _=>?_);clear hK K;refine wpAnyH_done (by kernel_rfl) ?_ _;refine⟨(fun c hc=>by cases hc),?_⟩;go_wp2;go_meet
   case rel=>exact⟨BA,rfl,Sz.start (Sx.kept HU.out HW.out) W8.blk (by have:=HU.out.k.lt;have:=HL8.out;omega)⟩
 case rest =>
  obtain⟨BF,rfl,hI⟩:=hcut;have HI:=hyd hI.out;clear hI HU;go_wp2;go_loopw [14] (fun i wr=>∃(j:Nat) (v:Value) (bs:Nat→Nat),j≤cd.len∧i=.int .i64 j∧Sz w n g p r e cd S BF j v bs wr) (fun i _=>cd.len - (intOf i).toNat)
  case atStart=>exact⟨0,_,_,Nat.zero_le _,rfl,HI.out⟩
  case round =>
   clear HI;obtain⟨j,v,bs,hj,rfl,hz⟩:=hrel;have HZ:=hyd hz;clear hz;obtain⟨a7,c7,hv⟩:=zkb HZ.out.row;subst hv;by_cases hlt:j<cd.len
   ·have ij:(j:Int)<cd.len:=by omega
    have HLT:=hyd hlt;have HJ:=hyd (show j<S.len by rw[HD.out.2.2.2.2.2.2.1];exact hlt)
    clear hlt;rw[HD.out.2.2.2.2.2.1.nil (by have:=HJ.out;omega)]
    go_upto_region 5 with fail
    have rP:∀u,(∃x:Wd (fun q=>Below wr.heap.size wr q),u=x.w)→u.rangeAt (w.heap.size+1) 0 p.vs:=fun _ hC=>by obtain⟨x,rfl⟩:=hC;exact (HZ.out.x.kept x.2).p.range
    have f16:∀x:Wd (fun q=>Below wr.heap.size wr q),x.w.cell? ⟨BF,16,none⟩=some (.slice a7 j c7):=fun x=>(HZ.out.bF.kept x.2).cell 16 rfl;have s0:∀x:Wd (fun q=>Below wr.heap.size wr q),x.w.cell? ⟨S.b,S.o+j,none⟩=some (.slice (S.x j).ao (S.x j).len (S.x j).cap):=fun x=>by
     have h:=zaf (zaf (HD.out.2.2.2.2.2.1.row j HJ.out) HZ.out.x.bl) x.2 0 _ rfl;rw[Nat.mul_one,Nat.add_zero] at h;exact h
    have hNE:Nonempty (Wd (fun q=>Below wr.heap.size wr q)):=⟨⟨_,Below.refl _ _⟩⟩;have HV0:=hyd (Below.refl wr.heap.size wr).drew;have iS:(j:Int)<S.len:=by have:=HJ.out;omega
    refine zbu (fun q=>Below wr.heap.size wr q) 11 [0,1,2,3,4,5,6,8] 6 (by kernel_rfl) rfl (by kernel_rfl) HV0.out ?_;simp only[List.filterMap,zD,zE];iterate 6 go_big_quiet_step (fail)
    go_big_quiet_want;refine zad 38 (.tmp 7) rfl (w.heap.size+1) 0 (by kernel_rfl) p.vs _ rP Tryz.underlying38 rfl (by kernel_rfl) ?_;simp only[Act.put,zA,zB,zC];go_big_quiet_on;go_big_quiet_step (fail)
    refine wpQuiet_nil ?_;clear rP f16 s0 hNE iS;have HZ0:=hyd (HZ.out.kept HV0.out);have HBW:=hyd HV0.out;clear HZ HV0;generalize wr.drew=v0 at *;have B1:=zac v0 (.cells p.vs.toArray 38);have B2:=zac (v0.alloc (.cells p.vs.toArray 38)) (.cells (spV (S.x j) v0.heap.size e).toArray 48);have HW1:=hyd (Below.next HBW.out B1);have HW2:=hyd (Below.next HW1.out B2);have HO2:=hyd (owk (owk HZ0.out.row B1) B2);have HNEW:Hid (∀a,(some ⟨(v0.alloc (.cells p.vs.toArray 38)).heap.size,0,none⟩:Option Addr)=some a→∀q u,(spV (S.x j) v0.heap.size e)[q]?=some u→((v0.alloc (.cells p.vs.toArray 38)).alloc (.cells (spV (S.x j) v0.heap.size e).toArray 48)).cell? (a.add q)=some u):=fun a ha q u hu=>by
     injection ha with ha
     subst ha;have h1:=Blk.new (v0.alloc (.cells p.vs.toArray 38)) (spV (S.x j) v0.heap.size e) 48;rw[adp,Nat.zero_add];exact h1.cell q hu
    have HGE:Hid (BF+1≤((v0.alloc (.cells p.vs.toArray 38)).alloc (.cells (spV (S.x j) v0.heap.size e).toArray 48)).heap.size):=by
     show _≤_
     have:=HZ0.out.bF.lt;rw[alloc_size,alloc_size];omega
    clear B1 B2;refine zaq (rs:=[7]) (by kernel_rfl) (by simp) ?_;refine AllReadyG.cons rfl (fun K hK=>?_) AllReadyG.nil;rw[if_pos (by rfl)];refine zex 36 1 #[(0,.tmp 35)] rfl #[(0,.agg p.vs.toArray)] (by kernel_rfl) (zgn p v0) ?_;refine hK.out _ _ (fun _=>HW1.out) ?_
    try simp only[Act.put,List.getElem_toArray,List.getElem_cons_zero,List.getElem_cons_succ,zA,zB,zC]
    clear hK K;refine zaq (rs:=[9]) (by kernel_rfl) (by simp) ?_;refine AllReadyG.cons rfl (fun K hK=>?_) AllReadyG.nil;rw[if_pos (by rfl)];refine zcr 48 #[(0,.tmp 34),(1,.tmp 36),(2,.tmp 37)] rfl #[(0,.slice (S.x j).ao (S.x j).len (S.x j).cap),(1,.slice (some ⟨v0.heap.size,0,none⟩) 1 1),(2,.int .i64 e)] (by kernel_rfl) (znb (S.x j) v0.heap.size e _) ?_;refine hK.out _ _ (fun _=>HW1.out) ?_
    try simp only[Act.put,List.getElem_toArray,List.getElem_cons_zero,List.getElem_cons_succ,zA,zB,zC]
    clear hK K;refine zaq (rs:=[10]) (by kernel_rfl) (by simp) ?_;refine AllReadyG.cons rfl (fun K hK=>?_) AllReadyG.nil;rw[if_pos (by rfl)];refine zex 41 1 #[(0,.tmp 38)] rfl #[(0,.agg (spV (S.x j) v0.heap.size e).toArray)] (by kernel_rfl) (zqk (S.x j) v0.heap.size e _) ?_;refine hK.out _ _ (fun _=>HW2.out) ?_
    try simp only[Act.put,List.getElem_toArray,List.getElem_cons_zero,List.getElem_cons_succ,zA,zB,zC]
    clear hK K;refine zaq (rs:=[11]) (by kernel_rfl) (by simp) ?_;refine AllReadyG.cons rfl (fun K hK=>?_) AllReadyG.nil;rw[if_pos (by rfl)];refine zl0 Tryz.underlying41 zwy rfl (by decide) (.tmp 30) (.tmp 39) rfl (BF+1) (.slice a7 j c7) j (za2 (fun i=>spV (S.x i) (bs i) e) j) (by kernel_rfl) HO2.out (some ⟨(v0.alloc (.cells p.vs.toArray 38)).heap.size,0,none⟩) 1 1 (spV (S.x j) v0.heap.size e) (by kernel_rfl) (fun h=>by cases h) rfl HNEW.out (by intro x hx;simp only[spV,List.mem_cons,List.not_mem_nil,or_false] at hx;rcases hx with rfl | rfl | rfl <;> rfl) (by have:=HD.out.2.2.2.2.2.2.2;have:=HLT.out;unfold maxLen;omega) (by have:=HD.out.2.2.2.2.2.2.2;have:=HLT.out;omega) HGE.out ?_
    intro v5 w5 h5 g5;obtain⟨hbF,hmore⟩:=HZ0.out.more g5 h5;obtain⟨a5,c5,hv5⟩:=zkb h5;subst hv5;have HM:=hyd hmore;have f16:=hbF.cell 16 rfl;have g16:=hbF.frozen 16;refine hK.out _ _ (fun h=>absurd h (by omega)) ?_;clear hmore h5 g5 hbF hK K
    try simp only[Act.put,List.getElem_toArray,List.getElem_cons_zero,List.getElem_cons_succ,zA,zB,zC]
    refine zaq (rs:=[12]) (by kernel_rfl) (by simp) ?_;refine AllReadyG.cons rfl (fun K hK=>?_) AllReadyG.nil;rw[if_pos (by rfl)];go_simp;refine hK.out _ _ (fun h=>absurd h (by omega)) ?_;clear hK K;refine zaq (rs:=[13]) (by kernel_rfl) (by simp) ?_;refine AllReadyG.cons rfl (fun K hK=>?_) AllReadyG.nil;rw[if_pos (by rfl)];go_simp;refine hK.out _ _ (fun h=>absurd h (by omega)) ?_;clear hK K f16 g16;refine zeh (by kernel_rfl) ?_ _;refine⟨fun c=>by simp,?_⟩;have hbd3:cd.len≤1000:=HD.out.2.2.2.2.2.2.2;clear HW1 HW2 HO2 HNEW HGE HZ0 HBW;generalize w5.setCell ⟨BF,16,none⟩ (.slice a5 (j+1) c5)=w6 at *;go_wp2;go_roundw
    case rel=>exact⟨j+1,_,_,by have:=HLT.out;omega,by go_num,HM.out⟩
    case measure=>have:=HLT.out;simp[intOf];omega
   ·have ej:j=cd.len:=by omega
    subst ej;have ij:¬(cd.len:Int)<cd.len:=by omega
    have rF:wr.rangeAt BF 0 (stD p r (botI n g) (topI n g) cd a7 cd.len c7).vs:=HZ.out.bF.range;have l0:=HZ.out.x.l.cell 0 rfl;have l1:=HZ.out.x.l.cell 1 rfl;have BA:=zac wr (.cells (stD p r (botI n g) (topI n g) cd a7 cd.len c7).vs.toArray 44);have bS:=Blk.new wr (stD p r (botI n g) (topI n g) cd a7 cd.len c7).vs 44;have K1:=HZ.out.x.k.kept BA;have c0:=K1.cell 0 rfl;have c1:=K1.cell 1 rfl;have c2:=K1.cell 2 rfl;have g0:=K1.frozen 0;have g1:=K1.frozen 1;have g2:=K1.frozen 2;have HN:=hyd (Below.next HZ.out.x.bl BA);have HS:=hyd bS;have HO2:Hid (∀k,k<wr.heap.size→(wr.alloc (.cells (stD p r (botI n g) (topI n g) cd a7 cd.len c7).vs.toArray 44)).heap[k]?=wr.heap[k]?):=fun k hk=>BA.block k hk;clear bS BA K1;go_wp2_with (first | (refine wpList_load_mid rfl 44 (.tmp 13) rfl BF 0 (by kernel_rfl) _ _ rF Tryz.underlying44 rfl (by kernel_rfl) ?_) | (refine zoh rfl 26 1 #[(0,.tmp 43)] rfl #[(0,.agg (stD p r (botI n g) (topI n g) cd a7 cd.len c7).vs.toArray)] (by kernel_rfl) (zqd _ _) ?_))
    generalize (wr.alloc (.cells (stD p r (botI n g) (topI n g) cd a7 cd.len c7).vs.toArray 44))=u8 at *;have d1:(u8.setCell ⟨w.heap.size+3,0,none⟩ (.slice n.ao n.len n.cap)).cell? ⟨w.heap.size+3,1,none⟩=some (.slice none 0 0):=by
     rw[World.cell?_setCell_other _ _ _ _ (by simp)];exact c1
    have d2:((u8.setCell ⟨w.heap.size+3,0,none⟩ (.slice n.ao n.len n.cap)).setCell ⟨w.heap.size+3,1,none⟩ (.slice g.ao g.len g.cap)).cell? ⟨w.heap.size+3,2,none⟩=some (.slice none 0 0):=by
     rw[World.cell?_setCell_other _ _ _ _ (by simp),World.cell?_setCell_other _ _ _ _ (by simp)];exact c2
    have hoth:∀k,k≠w.heap.size+3→(((u8.setCell ⟨w.heap.size+3,0,none⟩ (.slice n.ao n.len n.cap)).setCell ⟨w.heap.size+3,1,none⟩ (.slice g.ao g.len g.cap)).setCell ⟨w.heap.size+3,2,none⟩ (.slice (some ⟨wr.heap.size,0,none⟩) 1 1)).heap[k]?=u8.heap[k]?:=fun k hk=>by
     rw[Below.heap_setCell _ _ _ _ hk,Below.heap_setCell _ _ _ _ hk,Below.heap_setCell _ _ _ _ hk]
    have hres:∀W:World,W=(((u8.setCell ⟨w.heap.size+3,0,none⟩ (.slice n.ao n.len n.cap)).setCell ⟨w.heap.size+3,1,none⟩ (.slice g.ao g.len g.cap)).setCell ⟨w.heap.size+3,2,none⟩ (.slice (some ⟨wr.heap.size,0,none⟩) 1 1))→∃pt:Rw Pt,(stKl n g wr.heap.size (stCf p r (botI n g) (topI n g) cd pt)).At W∧StP p e cd.len S.x pt∧(∀i,i<pt.len→(pt.x i).st.len≤(pt.x i).st.cap)∧Below w.heap.size w W:=by
     rintro _ rfl;have hW9:Below w.heap.size w (((u8.setCell ⟨w.heap.size+3,0,none⟩ (.slice n.ao n.len n.cap)).setCell ⟨w.heap.size+3,1,none⟩ (.slice g.ao g.len g.cap)).setCell ⟨w.heap.size+3,2,none⟩ (.slice (some ⟨wr.heap.size,0,none⟩) 1 1)):=((HN.out.setCell (Nat.le_add_right _ _) _).setCell (Nat.le_add_right _ _) _).setCell (Nat.le_add_right _ _) _;have hge:=HZ.out.ge;have hlt':=HZ.out.bF.lt;obtain⟨pt,hv,hpp,hpc,hpt⟩:=HZ.out.pts HD.out.2.2.2.2.2.2.2 HD.out.2.2.1.1 HD.out.2.2.2.1 (fun i hi=>HD.out.2.2.2.2.2.1.each i (by have:=HD.out.2.2.2.2.2.2.1;omega)) hW9 (fun k h1 h2=>by rw[hoth k (by omega)];exact HO2.out k h2)
     refine⟨pt,⟨HD.out.1.kept hW9,HD.out.2.1.kept hW9,⟨fun _=>rfl,by show (1:Nat)≤_;omega,fun i hi=>?_,fun i hi=>?_⟩⟩,hpp,hpc,hW9⟩
     ·have hi0:i=0:=by have:i<1:=hi;omega
      subst hi0;intro q v hq;have hq2:(stD p r (botI n g) (topI n g) cd a7 cd.len c7).vs[q]?=some v:=by
       have e1:(stD p r (botI n g) (topI n g) cd a7 cd.len c7).vs=(stCf p r (botI n g) (topI n g) cd pt).vs:=by
        show sfV p r (botI n g) (topI n g) cd (.slice a7 cd.len c7)=sfV p r (botI n g) (topI n g) cd (.slice pt.ao pt.len pt.cap)
        rw[hv]
       rw[e1];exact hq
      have hne:wr.heap.size≠w.heap.size+3:=by omega
      have h1:=HS.out.cell q hq2;show World.cell? _ ⟨wr.heap.size,0+0*18+q,none⟩=some v
      rw[show 0+0*18+q=q by omega,World.cell?_of_block (w:=u8) (hoth _ hne)];exact h1
     ·exact⟨HD.out.2.2.1.1.kept hW9,HD.out.2.2.1.2.kept hW9,zav _ _ _,zwi n g,zv2 n g,(show (-9223372036854775808:Int)≤1∧(1:Int)≤9223372036854775807 by omega),HD.out.2.2.2.2.1.kept hW9,zd6 _ _ _ _ _,hpt,zd6 _ _ _ _ _⟩
    obtain⟨pt,h2,h3,h4,h5⟩:=hres _ rfl;exact bodyPost_ret (v:=.agg #[.slice n.ao n.len n.cap,.slice g.ao g.len g.cap,.slice (some ⟨wr.heap.size,0,none⟩) 1 1]) (by simp[results,Tryz.results23,go_sem,c0,c1,c2]) rfl ⟨wr.heap.size,pt,rfl,h2,h3,h4,h5⟩
end
end Go.Proofs.YtfobijdkoeifjaaGreatDoor
