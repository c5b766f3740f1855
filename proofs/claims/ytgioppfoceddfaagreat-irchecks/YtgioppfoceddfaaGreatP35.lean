import Derived.Test.YtgioppfoceddfaaGreatP31
set_option maxRecDepth 100000
set_option maxHeartbeats 32000000
namespace Go.Proofs.YtgioppfoceddfaaGreat
section
open Go Go.RowKit
def setV (f:Nat→Bool):List Value:=(List.range 250).map fun i=>Value.bool (f i)
theorem zba (f:Nat→Bool):(setV f).length=250:=by simp[setV]
theorem zjz (f:Nat→Bool):(setV f).all (·.oneCell')=true:=by simp[setV,Value.oneCell']
theorem znl (f:Nat→Bool){i:Nat}(h:i<250):(setV f)[i]?=some (.bool (f i)):=by simp[setV,h]
theorem zp8 {f g:Nat→Bool}(h:∀i,i<250→f i=g i):setV f=setV g:=by
 unfold setV;exact List.map_congr_left fun i hi=>by rw[h i (by simpa using hi)]
theorem Sta.vs_set (s:Sta):s.vs=.int .i64 s.at_ :: .int .i64 s.x :: (setV s.set++[.bool s.gone]):=rfl
theorem Sta.row {w:World}{B:Nat}{s:Sta}{t:TypeId}(h:Blk w B s.vs t):w.rangeAt B 2 (setV s.set):=fun j v hv=>by
 have hj:j<250:=by
  rcases Nat.lt_or_ge j 250 with h1 | h1
  ·exact h1
  ·rw[List.getElem?_eq_none (by rw[zba];exact h1)] at hv;cases hv
 have e:v=.bool (s.set j):=by rw[znl _ hj] at hv;exact (Option.some.inj hv).symm
 rw[e];exact h.cell (2+j) (s.v2 hj)
theorem alloc_set (w:World):(Instr.alloc 69 true (.tuple #[])).run Tryz.prog w=.ok (.pointer (some ⟨w.heap.size,0,none⟩)) (w.alloc (.cells (setV fun _=>false).toArray 69)):=by
 have hz:(Tryz.prog.info? 69).map (·.zero)=some (some (.agg (setV fun _=>false).toArray)):=by kernel_rfl
 cases hq:Tryz.prog.info? 69 with
 | none=>rw[hq] at hz;simp at hz
 | some i =>
  rw[hq] at hz;simp at hz
  simp[Instr.alloc,newVar,newRow,zeroValue,typeInfo,hq,hz,Value.cells]
theorem zep {ops:Array Oper}{rest:List Oper}{o:Oper}{a:Act}{w:World}{Q:Exit→Act→World→Prop}(hgd:o.guard=none)(ho:o.op=.alloc 69)
  (h:wpList Tryz.prog ops Q rest (a.put o.dst (.pointer (some ⟨w.heap.size,0,none⟩))) (w.alloc (.cells (setV fun _=>false).toArray 69))):wpList Tryz.prog ops Q (o :: rest) a w:=by
 refine wpList_plain hgd fun _ hK=>?_;unfold Oper.wp execOp;simp only[ho,Sem.run_bind,alloc_set,Result.andThen_ok,Sem.run_pure];exact hK _ _ h
theorem zme (f:Nat→Bool){k:Nat}(hk:k<250)(w:World):(Instr.index 69 (.agg (setV f).toArray) (.int .i64 k)).run Tryz.prog w=.ok (.bool (f k)) w:=by
 have h1:(0:Int)≤k∧(k:Int)<250:=by omega
 have h2:=znl f hk;simp[Instr.index,run_underlying Tryz.underlying69,asIntOf,part,go_sem,h1,h2]
 intro h;omega
theorem zf4 {ops:Array Oper}{rest:List Oper}{o:Oper}{a:Act}{w:World}{Q:Exit→Act→World→Prop}(hgd:o.guard=none)(x i:Operand)(ho:o.op=.index 69 x i)(f:Nat→Bool)(k:Nat)(hx:a.eval x=.agg (setV f).toArray)(hi:a.eval i=.int .i64 k)(hk:k<250)
  (h:wpList Tryz.prog ops Q rest (a.put o.dst (.bool (f k))) w):wpList Tryz.prog ops Q (o :: rest) a w:=by
 refine wpList_plain hgd fun _ hK=>?_;unfold Oper.wp execOp;simp only[ho,hx,hi,Sem.run_bind,zme f hk,Result.andThen_ok,Sem.run_pure];exact hK _ _ h
theorem zgt {fn:Func}{tmps:Array Value}{k B:Nat}{f:Nat→Bool}{w:World}(hf:fn.results=#[.cell k 69])(ht:tmps.getD k undef=.pointer (some ⟨B,0,none⟩))(C:w.rangeAt B 0 (setV f)):(results fn tmps).run Tryz.prog w=.ok (.agg (setV f).toArray) w:=by
 have h:=zgp (ty:=69) C Tryz.underlying69 rfl (by rw[zba];kernel_rfl)
 generalize (setV f).toArray=va at h ⊢;have ha:(asAddr (tmps[k]?.getD undef)).run Tryz.prog w=.ok ⟨B,0,none⟩ w:=by rw[show tmps[k]?.getD undef=.pointer (some ⟨B,0,none⟩) by simpa using ht];rfl
 unfold results;rw[hf];simp[ha,h]
structure Sb (w:World)(a b:Sta)(u:World):Prop where
 bl:Below w.heap.size w u
 A:Blk u w.heap.size a.vs 71
 B:Blk u (w.heap.size+1) b.vs 71
 Z:Blk u (w.heap.size+2) (setV fun _=>false) 69
theorem sb_new (w:World)(a b:Sta):Sb w a b (((w.alloc (.cells a.va 71)).alloc (.cells b.va 71)).alloc (.cells (setV fun _=>false).toArray 69)):=by
 have H:=zar [.cells a.va 71,.cells b.va 71,.cells (setV fun _=>false).toArray 69] w;have B0:=zap [.cells a.va 71,.cells b.va 71,.cells (setV fun _=>false).toArray 69] w;simp only[List.foldl] at H B0;exact⟨B0,H 0 (by simp),H 1 (by simp),H 2 (by simp)⟩
def mixS (a b:Sta)(k:Nat):Sta:={ a with set:=fun i=>if i<k then a.set i&&b.set i else a.set i }
theorem Sta.putB (s:Sta){i:Nat}(h:i<250)(v:Bool):s.vs.set (2+i) (.bool v)=({ s with set:=fun j=>if j=i then v else s.set j }:Sta).vs:=by
 rw[Nat.add_comm 2 i];show Value.int .i64 s.at_ :: Value.int .i64 s.x :: (((List.range 250).map (fun i=>Value.bool (s.set i))++[Value.bool s.gone]).set i (Value.bool v))=_
 unfold Sta.vs
 congr 2
 apply List.ext_getElem?
 intro j;rw[List.getElem?_set];by_cases hj:j<250
 ·rw[List.getElem?_append_left (by simpa using hj),List.getElem?_append_left (by simpa using hj)];by_cases e:i=j
  ·subst e;simp[hj];omega
  ·have:j≠i:=fun h=>e h.symm;simp[e,hj,this]
 ·have e:i≠j:=by omega
  rw[if_neg e,List.getElem?_append_right (by simp;omega),List.getElem?_append_right (by simp;omega)]
  simp
theorem zu9 (a b:Sta){k:Nat}(h:k<250):(mixS a b k).vs.set (2+k) (.bool (a.set k&&b.set k))=(mixS a b (k+1)).vs:=by
 rw[Sta.putB _ h];unfold mixS
 congr 2
 funext j
 by_cases e:j=k
 ·subst e;simp
 ·rcases Nat.lt_or_ge j k with h1 | h1
  ·simp[e,h1,Nat.lt_succ_of_lt h1]
  ·have h2:¬j<k:=by omega
   have h3:¬j<k+1:=by omega
   simp[e,h2,h3]
theorem zhn (a b:Sta)(w:World):Calls Tryz.prog 132 #[.agg a.va,.agg b.va] w fun e w'=>e=.returned (.agg (setV (zbq a b)).toArray)∧Below w.heap.size w w':=by
 have HI:=hid (sb_new w a b);cases ha:a.gone
 ·cases hb:b.gone
  ·have HG:Hid (zbq a b=fun i=>a.set i&&b.set i):=by show _=_;unfold zbq;rw[ha,hb];rfl
   have HA:=hid (show a.gone=false∧b.gone=false from ⟨ha,hb⟩);clear ha hb;go_enter Tryz.func132,Tryz.ntmps132
   go_upto_region 1 with (refine zep rfl rfl ?_)
   generalize (((w.alloc (.cells a.va 71)).alloc (.cells b.va 71)).alloc (.cells (setV fun _=>false).toArray 69))=w1 at *;have a3:w1.cell? ⟨w.heap.size,252,none⟩=some (.bool false):=HI.out.A.cell 252 (by rw[a.v252,HA.out.1]);have b3:w1.cell? ⟨w.heap.size+1,252,none⟩=some (.bool false):=HI.out.B.cell 252 (by rw[b.v252,HA.out.2]);have rB:=Sta.row HI.out.B;go_wp2_with (refine wpList_load_mid rfl 69 (.tmp 15) rfl (w.heap.size+1) 2 (by kernel_rfl) (setV b.set) _ rB Tryz.underlying69 rfl (by rw[zba];kernel_rfl) ?_)
   clear a3 b3 rB;go_loopw [17] (fun i wr=>∃(k:Nat),k≤250∧i=.int .i64 k∧Sb w (mixS a b k) b wr) (fun i _=>250 - (intOf i).toNat)
   case atStart=>exact⟨0,by omega,rfl,by
    have e:mixS a b 0=a:=by unfold mixS;simp
    rw[e];exact HI.out⟩
   case round =>
    clear HI;obtain⟨k,hk,rfl,hB⟩:=hrel;have HI:=hid hB;clear hB;by_cases hlt:k<250
    ·have ij:(k:Int)<250:=by omega
     have d2:=HI.out.A.cell (2+k) (Sta.v2 (mixS a b k) hlt);have g2:=HI.out.A.frozen (2+k);have e2:(mixS a b k).set k=a.set k:=by unfold mixS;simp
     rw[e2] at d2;have W1:=zbo (i:=2+k) HI.out.A (.bool (a.set k&&b.set k));rw[zu9 a b hlt] at W1;have HB:=hid (show Sb w (mixS a b (k+1)) b (wr.setCell ⟨w.heap.size,2+k,none⟩ (.bool (a.set k&&b.set k))) from ⟨W1.below (by omega) HI.out.bl,W1.blk,W1.keep HI.out.B (by omega),W1.keep HI.out.Z (by omega)⟩);clear HI W1 e2;cases hx:a.set k
     ·rw[hx] at d2 HB;go_upto_region 9 with (refine zf4 rfl (.tmp 16) (.tmp 17) rfl b.set k rfl rfl hlt ?_)
      simp only[Bool.false_and] at HB;generalize wr.setCell ⟨w.heap.size,2+k,none⟩ (.bool false)=w2 at *;clear d2 g2 hx;go_wp2;go_roundw
      case rel=>exact⟨k+1,by omega,by go_num,HB.out⟩
      case measure=>simp[intOf];omega
     ·rw[hx] at d2 HB;go_upto_region 9 with (refine zf4 rfl (.tmp 16) (.tmp 17) rfl b.set k rfl rfl hlt ?_)
      simp only[Bool.true_and] at HB;generalize wr.setCell ⟨w.heap.size,2+k,none⟩ (.bool (b.set k))=w2 at *;clear d2 g2 hx;go_wp2;go_roundw
      case rel=>exact⟨k+1,by omega,by go_num,HB.out⟩
      case measure=>simp[intOf];omega
    ·have e2:k=250:=by omega
     subst e2;have HE:Hid (setV (mixS a b 250).set=setV (zbq a b)):=by
      show _=_
      rw[HG.out];refine zp8 fun i hi=>?_;unfold mixS;simp[hi]
     have rA:=Sta.row HI.out.A;rw[HE.out] at rA;have bZ:=HI.out.Z;go_wp2_with (first | (refine wpList_load_mid rfl 69 (.tmp 32) rfl w.heap.size 2 (by kernel_rfl) (setV (zbq a b)) _ rA Tryz.underlying69 rfl (by rw[zba];kernel_rfl) ?_) | (refine zae rfl rfl 69 (.tmp 4) (.tmp 33) rfl (w.heap.size+2) (setV (zbq a b)) (by kernel_rfl) (by kernel_rfl) (zjz _) bZ (by rw[zba,zba]) (by simp only[List.size_toArray,zba];kernel_rfl) ?_;intro w2 W2));exact bodyPost_ret (v:=.agg (setV (zbq a b)).toArray) (zgt Tryz.results132 rfl W2.blk.range) rfl ⟨rfl,W2.below (by omega) HI.out.bl⟩
  ·have HG:Hid (zbq a b=a.set):=by show _=_;unfold zbq;rw[ha,hb];rfl
   have HA:=hid (show a.gone=false∧b.gone=true from ⟨ha,hb⟩);clear ha hb;rw[HG.out];go_enter Tryz.func132,Tryz.ntmps132
   go_upto_region 1 with (refine zep rfl rfl ?_)
   generalize (((w.alloc (.cells a.va 71)).alloc (.cells b.va 71)).alloc (.cells (setV fun _=>false).toArray 69))=w1 at *;have a3:w1.cell? ⟨w.heap.size,252,none⟩=some (.bool false):=HI.out.A.cell 252 (by rw[a.v252,HA.out.1]);have b3:w1.cell? ⟨w.heap.size+1,252,none⟩=some (.bool true):=HI.out.B.cell 252 (by rw[b.v252,HA.out.2]);have rA:=Sta.row HI.out.A;have bZ:=HI.out.Z;go_wp2_with (first | (refine wpList_load_mid rfl 69 (.tmp 13) rfl w.heap.size 2 (by kernel_rfl) (setV a.set) _ rA Tryz.underlying69 rfl (by rw[zba];kernel_rfl) ?_) | (refine zae rfl rfl 69 (.tmp 4) (.tmp 14) rfl (w.heap.size+2) (setV a.set) (by kernel_rfl) (by kernel_rfl) (zjz _) bZ (by rw[zba,zba]) (by simp only[List.size_toArray,zba];kernel_rfl) ?_;intro w2 W2));exact bodyPost_ret (v:=.agg (setV a.set).toArray) (zgt Tryz.results132 rfl W2.blk.range) rfl ⟨rfl,W2.below (by omega) HI.out.bl⟩
 ·have HG:Hid (zbq a b=b.set):=by show _=_;unfold zbq;rw[ha];rfl
  have HA:=hid (show a.gone=true from ha);clear ha;rw[HG.out];go_enter Tryz.func132,Tryz.ntmps132
  go_upto_region 1 with (refine zep rfl rfl ?_)
  generalize (((w.alloc (.cells a.va 71)).alloc (.cells b.va 71)).alloc (.cells (setV fun _=>false).toArray 69))=w1 at *;have a3:w1.cell? ⟨w.heap.size,252,none⟩=some (.bool true):=HI.out.A.cell 252 (by rw[a.v252,HA.out]);have rB:=Sta.row HI.out.B;have bZ:=HI.out.Z;go_wp2_with (first | (refine wpList_load_mid rfl 69 (.tmp 9) rfl (w.heap.size+1) 2 (by kernel_rfl) (setV b.set) _ rB Tryz.underlying69 rfl (by rw[zba];kernel_rfl) ?_) | (refine zae rfl rfl 69 (.tmp 4) (.tmp 10) rfl (w.heap.size+2) (setV b.set) (by kernel_rfl) (by kernel_rfl) (zjz _) bZ (by rw[zba,zba]) (by simp only[List.size_toArray,zba];kernel_rfl) ?_;intro w2 W2));exact bodyPost_ret (v:=.agg (setV b.set).toArray) (zgt Tryz.results132 rfl W2.blk.range) rfl ⟨rfl,W2.below (by omega) HI.out.bl⟩
theorem zhq (a x:Int)(f:Nat→Bool)(g:Bool)(w:World):(Instr.build 71 #[(0,.int .i64 a),(1,.int .i64 x),(2,.agg (setV f).toArray),(3,.bool g)]).run Tryz.prog w=.ok (.agg (⟨a,x,f,g⟩:Sta).vs.toArray) w:=by kernel_rfl
theorem zca (a x:Int)(f:Nat→Bool)(w:World):(Instr.build 71 #[(0,.int .i64 a),(1,.int .i64 x),(2,.agg (setV f).toArray)]).run Tryz.prog w=.ok (.agg (⟨a,x,f,false⟩:Sta).vs.toArray) w:=by kernel_rfl
theorem zb6 {o:Oper}{a:Act}{w w':World}{v:Value}{K:Act→World→Prop}{Q:Exit→Act→World→Prop}(t:TypeId)(parts:Array (Nat × Operand))(ho:o.op=.build t parts)(vals:Array (Nat × Value))(hv:(parts.map fun (i,x)=>(i,a.eval x))=vals)
  (hs:(Instr.build t vals).run Tryz.prog w=.ok v w') (h:K (a.put o.dst v) w'):o.wp Tryz.prog a w K Q:=by
 subst hv;unfold Oper.wp execOp;simp only[ho,Sem.run_bind,hs,Result.andThen_ok,Sem.run_pure];exact h
theorem zjj {fn:Func}{tmps:Array Value}{k B:Nat}{s:Sta}{w:World}(hf:fn.results=#[.cell k 71])(ht:tmps.getD k undef=.pointer (some ⟨B,0,none⟩))(C:w.rangeAt B 0 s.vs):(results fn tmps).run Tryz.prog w=.ok (.agg s.vs.toArray) w:=by
 have h:=zgp (ty:=71) C Tryz.underlying71 rfl (by rw[s.len];kernel_rfl)
 generalize s.vs.toArray=va at h ⊢;have ha:(asAddr (tmps[k]?.getD undef)).run Tryz.prog w=.ok ⟨B,0,none⟩ w:=by rw[show tmps[k]?.getD undef=.pointer (some ⟨B,0,none⟩) by simpa using ht];rfl
 unfold results;rw[hf];simp[ha,h]
def Sj (w:World)(j:Jd)(s a b:Sta)(q:World):Prop:=Below w.heap.size w q∧Blk q w.heap.size j.vs 48∧Blk q (w.heap.size+1) s.vs 71∧Blk q (w.heap.size+2) a.vs 71∧Blk q (w.heap.size+3) b.vs 71
structure Jnc (w:World)(j:Jd)(s a b:Sta)(u:World):Prop where
 S:Sj w j s a b u
 Z:Blk u (w.heap.size+4) Sta.zero.vs 71
theorem Jnc.kept {w:World}{j:Jd}{s a b:Sta}{u u':World}(h:Jnc w j s a b u)(hb:Below u.heap.size u u'):Jnc w j s a b u' :=
 ⟨⟨Below.next h.S.1 hb,h.S.2.1.kept hb,h.S.2.2.1.kept hb,h.S.2.2.2.1.kept hb,h.S.2.2.2.2.kept hb⟩,h.Z.kept hb⟩
theorem zw4 (w:World)(j:Jd)(s a b:Sta):Jnc w j s a b (((((w.alloc (.cells j.va 48)).alloc (.cells s.va 71)).alloc (.cells a.va 71)).alloc (.cells b.va 71)).alloc (.cells Sta.zero.va 71)):=by
 have H:=zar [.cells j.va 48,.cells s.va 71,.cells a.va 71,.cells b.va 71,.cells Sta.zero.va 71] w;have B0:=zap [.cells j.va 48,.cells s.va 71,.cells a.va 71,.cells b.va 71,.cells Sta.zero.va 71] w;simp only[List.foldl] at H B0;exact⟨⟨B0,H 0 (by simp),H 1 (by simp),H 2 (by simp),H 3 (by simp)⟩,H 4 (by simp)⟩
theorem zir (j:Jd)(s a b:Sta)(x:Int)(w:World)(hn:j.n.At w)(hg:j.g.At w):Calls Tryz.prog 113 #[.agg j.va,.agg s.va,.agg a.va,.agg b.va,.int .i64 x] w fun e w'=>e=.returned (.agg (j.junc s a b x).vs.toArray)∧Below w.heap.size w w':=by
 have HI:=hid (zw4 w j s a b);have HH:=hid (show j.n.At w∧j.g.At w from ⟨hn,hg⟩);have HG:Hid (j.junc s a b x=⟨zad j.n j.g s.at_ x,zad j.n j.g s.x x,zbq a b,a.gone&&b.gone⟩):=by show _=_;rfl
 clear hn hg;go_enter Tryz.func113,Tryz.ntmps113
 go_upto_region 1 with (refine zbd rfl rfl ?_)
 generalize (((((w.alloc (.cells j.va 48)).alloc (.cells s.va 71)).alloc (.cells a.va 71)).alloc (.cells b.va 71)).alloc (.cells Sta.zero.va 71))=w1 at *;simp only[Act.put,alloc_size,zA,zB,zC];have hS:∀q,(∃x:Wd (Sj w j s a b),q=x.w)→Sj w j s a b q:=by rintro _ ⟨x,rfl⟩;exact x.2
 have p0:∀x:Wd (Sj w j s a b),x.w.cell? ⟨w.heap.size+1,0,none⟩=some (.int .i64 s.at_):=fun x=>x.2.2.2.1.cell 0 s.v0;have p1:∀x:Wd (Sj w j s a b),x.w.cell? ⟨w.heap.size+1,1,none⟩=some (.int .i64 s.x):=fun x=>x.2.2.2.1.cell 1 s.v1;have pb:∀x:Wd (Sj w j s a b),x.w.cell? ⟨w.heap.size+3,252,none⟩=some (.bool b.gone):=fun x=>x.2.2.2.2.2.cell 252 b.v252;have HV0:=hid (HI.out.kept (Below.refl w1.heap.size w1).drew);have hNE:Nonempty (Wd (Sj w j s a b)):=⟨⟨_,HV0.out.S⟩⟩;cases hga:a.gone
 ·have pa:∀x:Wd (Sj w j s a b),x.w.cell? ⟨w.heap.size+2,252,none⟩=some (.bool false):=fun x=>x.2.2.2.2.1.cell 252 (by rw[a.v252,hga]);have HGA:=hid (show a.gone=false from hga);clear hga;refine zal (Sj w j s a b) [0,1,2,3,5,6,7,8,10,11,13,14] 9 (by kernel_rfl) rfl (by kernel_rfl) (zbt (by kernel_rfl)) HV0.out.S ?_;simp only[List.filterMap,zD,zE];generalize w1.drew=v0 at *;go_big_quiet_want;refine zaa 48 (.tmp 5) rfl _ 0 (by kernel_rfl) j.vs _ (fun q hq=>(hS q hq).2.1.range) Tryz.underlying48 rfl (by kernel_rfl) ?_;simp only[Act.put,zA,zB,zC];go_big_quiet_on;iterate 3 go_big_quiet_step (fail)
  go_big_quiet_want;refine zaa 48 (.tmp 5) rfl _ 0 (by kernel_rfl) j.vs _ (fun q hq=>(hS q hq).2.1.range) Tryz.underlying48 rfl (by kernel_rfl) ?_;simp only[Act.put,zA,zB,zC];go_big_quiet_on;iterate 3 go_big_quiet_step (fail)
  go_big_quiet_want;refine zaa 71 (.tmp 7) rfl _ 0 (by kernel_rfl) a.vs _ (fun q hq=>(hS q hq).2.2.2.1.range) Tryz.underlying71 rfl (by rw[Sta.len];kernel_rfl) ?_
  simp only[Act.put,zA,zB,zC];go_big_quiet_on;go_big_quiet_want;refine zaa 71 (.tmp 8) rfl _ 0 (by kernel_rfl) b.vs _ (fun q hq=>(hS q hq).2.2.2.2.range) Tryz.underlying71 rfl (by rw[Sta.len];kernel_rfl) ?_
  simp only[Act.put,zA,zB,zC];go_big_quiet_on;iterate 2 go_big_quiet_step (fail)
  refine wpQuiet_nil ?_;clear hS p0 p1 pa HI;refine wpAnyH_ready (rs:=[4]) (by kernel_rfl) (by simp) ?_;refine AllReadyH.cons rfl (fun K hK=>?_) AllReadyH.nil;rw[if_pos (by rfl)];go_simp;refine (zbz j s.at_ x v0 (HH.out.1.kept HV0.out.S.1) (HH.out.2.kept HV0.out.S.1)).mono ?_;rintro _ v1 ⟨rfl,hb9⟩;have HV1:=hid (HV0.out.kept hb9);refine hK.out _ _ HV1.out.S (fun _=>?_);clear hK K hb9 HV0;generalize zad j.n j.g s.at_ x=y1 at *;refine wpAnyH_ready (rs:=[9]) (by kernel_rfl) (by simp) ?_;refine AllReadyH.cons rfl (fun K hK=>?_) AllReadyH.nil;rw[if_pos (by rfl)];go_simp;refine (zbz j s.x x v1 (HH.out.1.kept HV1.out.S.1) (HH.out.2.kept HV1.out.S.1)).mono ?_;rintro _ v2 ⟨rfl,hb9⟩;have HV2:=hid (HV1.out.kept hb9);refine hK.out _ _ HV2.out.S (fun _=>?_);clear hK K hb9 HV1;generalize zad j.n j.g s.x x=y2 at *;refine wpAnyH_ready (rs:=[12]) (by kernel_rfl) (by simp) ?_;refine AllReadyH.cons rfl (fun K hK=>?_) AllReadyH.nil;rw[if_pos (by rfl)];go_simp;refine (zhn a b v2).mono ?_;rintro _ v3 ⟨rfl,hb9⟩;have HV3:=hid (HV2.out.kept hb9);refine hK.out _ _ HV3.out.S (fun _=>?_);clear hK K hb9 HV2;generalize zbq a b=sb at *;refine zam [15,16,17] (rest:=3) rfl (by kernel_rfl) (by kernel_rfl) HV3.out.S ?_;simp only[List.filterMap,zD,zE];iterate 3 go_big_quiet_step (fail)
  refine wpQuiet_nil ?_;clear pb hNE;refine wpAnyH_ready (rs:=[18]) (by kernel_rfl) (by simp) ?_;refine AllReadyH.cons rfl (fun K hK=>?_) AllReadyH.nil;rw[if_pos (by rfl)];go_simp;refine hK.out _ _ HV3.out.S (fun _=>?_);clear hK K;refine wpAnyH_ready (rs:=[19]) (by kernel_rfl) (by simp) ?_;refine AllReadyH.cons rfl (fun K hK=>?_) AllReadyH.nil;rw[if_pos (by rfl)];refine zb6 71 #[(0,.tmp 15),(1,.tmp 20),(2,.tmp 23),(3,.tmp 29)] rfl #[(0,.int .i64 y1),(1,.int .i64 y2),(2,.agg (setV sb).toArray),(3,.bool false)] (by kernel_rfl) (zhq y1 y2 sb (false) v3) ?_;refine hK.out _ _ HV3.out.S (fun _=>?_);clear hK K;refine wpAnyH_ready (rs:=[20]) (by kernel_rfl) (by simp) ?_;refine AllReadyH.cons rfl (fun K hK=>?_) AllReadyH.nil;rw[if_pos (by rfl)];refine zak 71 (.tmp 10) (.tmp 30) rfl rfl (w.heap.size+4) (⟨y1,y2,sb,false⟩:Sta).vs Sta.zero.vs (by kernel_rfl) (by kernel_rfl) (Sta.va_one _) HV3.out.Z (by rw[Sta.len,Sta.len]) (by simp only[List.size_toArray,Sta.len];kernel_rfl) ?_
  intro w6 W2;have HV4:=hid (show Sj w j s a b w6 from ⟨W2.below (by omega) HV3.out.S.1,W2.keep HV3.out.S.2.1 (by omega),W2.keep HV3.out.S.2.2.1 (by omega),W2.keep HV3.out.S.2.2.2.1 (by omega),W2.keep HV3.out.S.2.2.2.2 (by omega)⟩);refine hK.out _ _ HV4.out (fun _=>?_);clear hK K;refine wpAnyH_done (by kernel_rfl) ?_ _;refine⟨(fun c hc=>by cases hc),?_⟩;go_wp2;refine bodyPost_ret (v:=.agg (⟨y1,y2,sb,false⟩:Sta).vs.toArray) (zjj Tryz.results113 rfl W2.blk.range) rfl ⟨?_,HV4.out.1⟩;rw[HG.out,HGA.out]
  first | rfl | simp
 ·have pa:∀x:Wd (Sj w j s a b),x.w.cell? ⟨w.heap.size+2,252,none⟩=some (.bool true):=fun x=>x.2.2.2.2.1.cell 252 (by rw[a.v252,hga]);have HGA:=hid (show a.gone=true from hga);clear hga;refine zal (Sj w j s a b) [0,1,2,3,5,6,7,8,10,11,13,14] 9 (by kernel_rfl) rfl (by kernel_rfl) (zbt (by kernel_rfl)) HV0.out.S ?_;simp only[List.filterMap,zD,zE];generalize w1.drew=v0 at *;go_big_quiet_want;refine zaa 48 (.tmp 5) rfl _ 0 (by kernel_rfl) j.vs _ (fun q hq=>(hS q hq).2.1.range) Tryz.underlying48 rfl (by kernel_rfl) ?_;simp only[Act.put,zA,zB,zC];go_big_quiet_on;iterate 3 go_big_quiet_step (fail)
  go_big_quiet_want;refine zaa 48 (.tmp 5) rfl _ 0 (by kernel_rfl) j.vs _ (fun q hq=>(hS q hq).2.1.range) Tryz.underlying48 rfl (by kernel_rfl) ?_;simp only[Act.put,zA,zB,zC];go_big_quiet_on;iterate 3 go_big_quiet_step (fail)
  go_big_quiet_want;refine zaa 71 (.tmp 7) rfl _ 0 (by kernel_rfl) a.vs _ (fun q hq=>(hS q hq).2.2.2.1.range) Tryz.underlying71 rfl (by rw[Sta.len];kernel_rfl) ?_
  simp only[Act.put,zA,zB,zC];go_big_quiet_on;go_big_quiet_want;refine zaa 71 (.tmp 8) rfl _ 0 (by kernel_rfl) b.vs _ (fun q hq=>(hS q hq).2.2.2.2.range) Tryz.underlying71 rfl (by rw[Sta.len];kernel_rfl) ?_
  simp only[Act.put,zA,zB,zC];go_big_quiet_on;iterate 2 go_big_quiet_step (fail)
  refine wpQuiet_nil ?_;clear hS p0 p1 pa HI;refine wpAnyH_ready (rs:=[4]) (by kernel_rfl) (by simp) ?_;refine AllReadyH.cons rfl (fun K hK=>?_) AllReadyH.nil;rw[if_pos (by rfl)];go_simp;refine (zbz j s.at_ x v0 (HH.out.1.kept HV0.out.S.1) (HH.out.2.kept HV0.out.S.1)).mono ?_;rintro _ v1 ⟨rfl,hb9⟩;have HV1:=hid (HV0.out.kept hb9);refine hK.out _ _ HV1.out.S (fun _=>?_);clear hK K hb9 HV0;generalize zad j.n j.g s.at_ x=y1 at *;refine wpAnyH_ready (rs:=[9]) (by kernel_rfl) (by simp) ?_;refine AllReadyH.cons rfl (fun K hK=>?_) AllReadyH.nil;rw[if_pos (by rfl)];go_simp;refine (zbz j s.x x v1 (HH.out.1.kept HV1.out.S.1) (HH.out.2.kept HV1.out.S.1)).mono ?_;rintro _ v2 ⟨rfl,hb9⟩;have HV2:=hid (HV1.out.kept hb9);refine hK.out _ _ HV2.out.S (fun _=>?_);clear hK K hb9 HV1;generalize zad j.n j.g s.x x=y2 at *;refine wpAnyH_ready (rs:=[12]) (by kernel_rfl) (by simp) ?_;refine AllReadyH.cons rfl (fun K hK=>?_) AllReadyH.nil;rw[if_pos (by rfl)];go_simp;refine (zhn a b v2).mono ?_;rintro _ v3 ⟨rfl,hb9⟩;have HV3:=hid (HV2.out.kept hb9);refine hK.out _ _ HV3.out.S (fun _=>?_);clear hK K hb9 HV2;generalize zbq a b=sb at *;refine zam [15,16,17] (rest:=3) rfl (by kernel_rfl) (by kernel_rfl) HV3.out.S ?_;simp only[List.filterMap,zD,zE];iterate 3 go_big_quiet_step (fail)
  refine wpQuiet_nil ?_;clear pb hNE;refine wpAnyH_ready (rs:=[18]) (by kernel_rfl) (by simp) ?_;refine AllReadyH.cons rfl (fun K hK=>?_) AllReadyH.nil;rw[if_pos (by rfl)];go_simp;refine hK.out _ _ HV3.out.S (fun _=>?_);clear hK K;refine wpAnyH_ready (rs:=[19]) (by kernel_rfl) (by simp) ?_;refine AllReadyH.cons rfl (fun K hK=>?_) AllReadyH.nil;rw[if_pos (by rfl)];refine zb6 71 #[(0,.tmp 15),(1,.tmp 20),(2,.tmp 23),(3,.tmp 29)] rfl #[(0,.int .i64 y1),(1,.int .i64 y2),(2,.agg (setV sb).toArray),(3,.bool b.gone)] (by kernel_rfl) (zhq y1 y2 sb (b.gone) v3) ?_;refine hK.out _ _ HV3.out.S (fun _=>?_);clear hK K;refine wpAnyH_ready (rs:=[20]) (by kernel_rfl) (by simp) ?_;refine AllReadyH.cons rfl (fun K hK=>?_) AllReadyH.nil;rw[if_pos (by rfl)];refine zak 71 (.tmp 10) (.tmp 30) rfl rfl (w.heap.size+4) (⟨y1,y2,sb,b.gone⟩:Sta).vs Sta.zero.vs (by kernel_rfl) (by kernel_rfl) (Sta.va_one _) HV3.out.Z (by rw[Sta.len,Sta.len]) (by simp only[List.size_toArray,Sta.len];kernel_rfl) ?_
  intro w6 W2;have HV4:=hid (show Sj w j s a b w6 from ⟨W2.below (by omega) HV3.out.S.1,W2.keep HV3.out.S.2.1 (by omega),W2.keep HV3.out.S.2.2.1 (by omega),W2.keep HV3.out.S.2.2.2.1 (by omega),W2.keep HV3.out.S.2.2.2.2 (by omega)⟩);refine hK.out _ _ HV4.out (fun _=>?_);clear hK K;refine wpAnyH_done (by kernel_rfl) ?_ _;refine⟨(fun c hc=>by cases hc),?_⟩;go_wp2;refine bodyPost_ret (v:=.agg (⟨y1,y2,sb,b.gone⟩:Sta).vs.toArray) (zjj Tryz.results113 rfl W2.blk.range) rfl ⟨?_,HV4.out.1⟩;rw[HG.out,HGA.out]
  first | rfl | simp
end
end Go.Proofs.YtgioppfoceddfaaGreat
