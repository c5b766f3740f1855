import Derived.Test.YtgioppfoceddfaaGreatP21
set_option maxRecDepth 100000
set_option maxHeartbeats 32000000
namespace Go.Proofs.YtgioppfoceddfaaGreat
section
open Go Go.RowKit
theorem zhg {f:Nat→Sta→Option Sta}{s:Sta}{k m:Nat}(h:za7 f k s=none)(hm:k≤m):za7 f m s=none:=by
  induction m with
  | zero => have : k = 0 := by omega
            subst this; exact h
  | succ m ih =>
    rcases Nat.lt_or_ge m k with h1 | h1
    · have:k=m+1:=by omega
      subst this;exact h
    · show (za7 f m s).bind (f m)=none
      rw[ih h1];rfl
structure Lw (w:World)(j:Jd)(s:Sta)(u:World):Prop where
 bl:Below w.heap.size w u
 J:Blk u w.heap.size j.vs 48
 S:Blk u (w.heap.size+1) s.vs 71
 Z:Blk u (w.heap.size+2) Sta.zero.vs 71
 sz:w.heap.size+3≤u.heap.size
theorem Lw.kept {w:World}{j:Jd}{s:Sta}{u u':World}(h:Lw w j s u)(hb:Below u.heap.size u u'):Lw w j s u' :=
 ⟨Below.next h.bl hb,h.J.kept hb,h.S.kept hb,h.Z.kept hb,Nat.le_trans h.sz hb.size⟩
theorem Lw.wroteS {w:World}{j:Jd}{s s':Sta}{u u':World}(h:Lw w j s u)(W:WroteB u u' (w.heap.size+1) s'.vs 71):Lw w j s' u' :=
 ⟨W.below (by omega) h.bl,W.keep h.J (by omega),W.blk,W.keep h.Z (by omega),by rw[W.size];exact h.sz⟩
theorem lw_new (w:World)(j:Jd)(s:Sta):Lw w j s (((w.alloc (.cells j.va 48)).alloc (.cells s.va 71)).alloc (.cells Sta.zero.va 71)):=by
 have H:=zar [.cells j.va 48,.cells s.va 71,.cells Sta.zero.va 71] w;have B0:=zap [.cells j.va 48,.cells s.va 71,.cells Sta.zero.va 71] w;have SZ:=za9 [.cells j.va 48,.cells s.va 71,.cells Sta.zero.va 71] w;simp only[List.foldl,List.length] at H B0 SZ;exact⟨B0,H 0 (by simp),H 1 (by simp),H 2 (by simp),by show _≤(World.heap _).size;exact Nat.le_of_eq SZ.symm⟩
def zbs (o:Option Sta)(j:Jd)(b:Ns)(s:Sta)(w:World):Prop:=Calls Tryz.prog 27 #[.agg j.va,.slice b.ao b.len b.cap,.agg s.va] w (zhc o w)
def zNv:List Value:=[.int .i64 0,.int .i64 0,.int .i64 0,.int .i64 0,.int .i64 0,.int .i64 0,.int .i64 0,.int .i64 0,.slice none 0 0,.int .i64 0,.int .i64 0,.slice none 0 0,.slice none 0 0,.slice none 0 0]
theorem zg7 (w:World):(Instr.alloc 65 true (.tuple #[])).run Tryz.prog w=.ok (.pointer (some ⟨w.heap.size,0,none⟩)) (w.alloc (.cells zNv.toArray 65)):=by
 have hz:(Tryz.prog.info? 65).map (·.zero)=some (some (.agg zNv.toArray)):=by kernel_rfl
 cases hq:Tryz.prog.info? 65 with
 | none=>rw[hq] at hz;simp at hz
 | some i =>
  rw[hq] at hz;simp at hz
  simp[Instr.alloc,newVar,newRow,zeroValue,typeInfo,hq,hz,Value.cells,zNv]
theorem zam {P:Program}{l:List Oper}{Q:Exit→Act→World→Prop}{S:World→Prop}(js:List Nat){rest fuel:Nat}{listed:Array Bool}{a:Act}{w:World}(hf:fuel=js.length+rest)(hj:(js.all fun i=>decide (i<l.length))=true)(hB:(Region.noSelect l.toArray&&lexM l.toArray js (js.filterMap (l[·]?)) listed)=true)(hS:S w)
  (h:wpQuiet P l.toArray (fun u=>∃x:Wd S,u=x.w) (fun a'=>wpAnyH P .any l.toArray (zfr Q) S rest (zb0 js listed) a' w) (js.filterMap (l[·]?)) a):wpAnyH P .any l.toArray (zfr Q) S fuel listed a w:=by
 simp only[Bool.and_eq_true] at hB;have eS:(fun u:World=>∃x:Wd S,u=x.w)=S:=by
  funext u;apply propext
  exact⟨fun ⟨x,hx⟩=>hx ▸ x.2,fun h=>⟨⟨u,h⟩,rfl⟩⟩
 rw[eS] at h;rw[hf];exact zfu hB.1 (fun c _ _ _ _ h=>absurd rfl (h.1 c)) hS js _ _ a (zbt hj) hB.2 h (fun a' h=>h)
theorem zbe {o:Oper}{a:Act}{w w':World}{v:Value}{K:Act→World→Prop}{Q:Exit→Act→World→Prop}(t:TypeId)(n:Nat)(parts:Array (Nat × Operand))(ho:o.op=.buildSlice t n parts)(vals:Array (Nat × Value))(hv:(parts.map fun (i,x)=>(i,a.eval x))=vals)
  (hs:(Instr.buildSlice t n vals).run Tryz.prog w=.ok v w') (h:K (a.put o.dst v) w'):o.wp Tryz.prog a w K Q:=by
 subst hv;unfold Oper.wp execOp;simp only[ho,Sem.run_bind,hs,Result.andThen_ok,Sem.run_pure];exact h
theorem zaq {o:Oper}{ops:Array Oper}{a:Act}(h:Region.wanted o (yielded ops a.tmps)=false):¬Region.wanted o (yielded ops a.tmps)=true:=by rw[h];simp
theorem znv (j:Jd)(b:Ns)(s:Sta)(w:World)(hj:j.At w)(hb:b.At w)(hr:∀i,i<b.len→∀x,x ∈ (b.ps i).h.rds→0≤x∧x<250)(stp:Nat→Sta→Option Sta)
  (hrun:∀i,i<b.len→∀s,(b.ps i).run j s=if j.pre (b.ps i) s=false then none else stp i s) (hnode:∀i,i<b.len→∀s u,Below w.heap.size w u→zcp (stp i s) j (b.ps i) s u):zbs (j.list b s) j b s w:=by
 unfold zbs;have HI:=hid (lw_new w j s);have HH:=hid (show j.At w∧b.At w∧(∀i,i<b.len→∀x,x ∈ (b.ps i).h.rds→0≤x∧x<250)∧(∀i,i<b.len→∀s,(b.ps i).run j s=if j.pre (b.ps i) s=false then none else stp i s)∧(∀i,i<b.len→∀s u,Below w.heap.size w u→zcp (stp i s) j (b.ps i) s u) from ⟨hj,hb,hr,hrun,hnode⟩);have HG:Hid (j.list b s=za7 (fun i=>(b.ps i).run j) b.len s):=by show _=_;rfl
 have hnil:0<b.len→b.ao=some ⟨b.b,b.o,none⟩:=hb.nil;have hbd:b.len≤9223372036854775807:=hb.bound;clear hj hb hr hrun hnode;generalize hlen:b.len=len at *;have HL:Hid (b.len=len):=hlen;clear hlen;generalize b.ao=ao at *;generalize b.cap=cap at *;go_enter Tryz.func27,Tryz.ntmps27
 go_upto_region 1 with (refine zbd rfl rfl ?_)
 generalize (((w.alloc (.cells j.va 48)).alloc (.cells s.va 71)).alloc (.cells Sta.zero.va 71))=w1 at *;go_wp2;go_loopw [13] (fun i wr=>∃(k:Nat) (sk:Sta),k≤len∧i=.int .i64 k∧za7 (fun i=>(b.ps i).run j) k s=some sk∧Lw w j sk wr) (fun i _=>len - (intOf i).toNat)
 case atStart=>exact⟨0,s,Nat.zero_le _,rfl,rfl,HI.out⟩
 case round =>
  clear HI;obtain⟨k,sk,hk,rfl,hrk,hI⟩:=hrel;have HI:=hid hI;have HK:=hid hrk;clear hI hrk;by_cases hlt:k<len
  ·have ij:(k:Int)<len:=by omega
   have a0:=hnil (by omega);subst a0;have hlt':k<b.len:=by rw[HL.out];exact hlt
   have rN:wr.rangeAt b.b (b.o+k*14) (b.ps k).vs:=(HH.out.2.1.kept HI.out.bl).cells k hlt';have HN:=hid (show (b.ps k).At w∧k<len from ⟨HH.out.2.1.part k hlt',hlt⟩);clear hlt';generalize hnd:b.ps k=nd at *;have HND:=hid hnd;clear hnd;have hN:=zac wr (.cells nd.vs.toArray 65);have HB:=hid (show Lw w j sk (wr.alloc (.cells nd.vs.toArray 65))∧Blk (wr.alloc (.cells nd.vs.toArray 65)) wr.heap.size nd.vs 65∧w.heap.size+3≤wr.heap.size from ⟨HI.out.kept hN,Blk.new wr _ _,HI.out.sz⟩);clear HI hN;go_upto_region 4 with (first | (refine wpList_load_mid rfl 65 (.tmp 15) rfl b.b (b.o+k*14) (by kernel_rfl) nd.vs _ rN Tryz.underlying65 rfl (by kernel_rfl) ?_) | (refine zao rfl rfl 65 rfl (.tmp 9) (.tmp 16) rfl zNv (zg7 _) rfl nd.vs.toArray (by kernel_rfl) (by kernel_rfl) rfl (by kernel_rfl) (by simpa using nd.va_one) ?_))
   clear rN;generalize (wr.alloc (.cells nd.vs.toArray 65))=w2 at *;generalize wr.heap.size=BN at *;simp only[Act.put,zA,zB,zC];go_cut [35] (fun c wx=>c=.bool (!j.pre nd sk)∧Hid (Lw w j sk wx∧Blk wx BN nd.vs 65∧w.heap.size+3≤BN))
   case first =>
    cases hgone:sk.gone
    ·have hC0:∀q,(∃x:Wd (fun q=>Below w2.heap.size w2 q),q=x.w)→q.rangeAt w.heap.size 0 j.vs:=by rintro _ ⟨x,rfl⟩;exact (HB.out.1.J.kept x.2).range
     have hC1:∀q,(∃x:Wd (fun q=>Below w2.heap.size w2 q),q=x.w)→q.rangeAt BN 0 nd.vs:=by rintro _ ⟨x,rfl⟩;exact (HB.out.2.1.kept x.2).range
     have hC2:∀q,(∃x:Wd (fun q=>Below w2.heap.size w2 q),q=x.w)→q.rangeAt (w.heap.size+1) 0 sk.vs:=by rintro _ ⟨x,rfl⟩;exact (HB.out.1.S.kept x.2).range
     have p0:∀x:Wd (fun q=>Below w2.heap.size w2 q),x.w.cell? ⟨w.heap.size+1,0,none⟩=some (.int .i64 sk.at_):=fun x=>(HB.out.1.S.kept x.2).cell 0 sk.v0;have p252:∀x:Wd (fun q=>Below w2.heap.size w2 q),x.w.cell? ⟨w.heap.size+1,252,none⟩=some (.bool false):=fun x=>(HB.out.1.S.kept x.2).cell 252 (by rw[sk.v252,hgone]);have p5:∀x:Wd (fun q=>Below w2.heap.size w2 q),x.w.cell? ⟨BN,5,none⟩=some (.int .i64 nd.h.env):=fun x=>(HB.out.2.1.kept x.2).cell 5 rfl;have hNE:Nonempty (Wd (fun q=>Below w2.heap.size w2 q)):=⟨⟨_,Below.refl _ _⟩⟩;refine zal (fun q=>Below w2.heap.size w2 q) [0,1,2,3,4,5,6,7] 11 (by kernel_rfl) rfl (by kernel_rfl) (zbt (by kernel_rfl)) ((Below.refl _ _).drew) ?_;simp only[List.filterMap,zD,zE];iterate 3 go_big_quiet_step (fail)
     go_big_quiet_want;refine zaa 48 (.tmp 3) rfl _ 0 (by kernel_rfl) j.vs _ hC0 Tryz.underlying48 rfl (by kernel_rfl) ?_;simp only[Act.put,zA,zB,zC];go_big_quiet_on;iterate 4 go_big_quiet_step (fail)
     refine wpQuiet_nil ?_;clear hC0 p0 p252 p5;have HBd:=hid (show Below w2.heap.size w2 w2.drew from (Below.refl _ _).drew);generalize w2.drew=w3 at *;refine wpAnyH_ready (rs:=[8]) (by kernel_rfl) (by simp) ?_;refine AllReadyH.cons rfl (fun K hK=>?_) AllReadyH.nil;rw[if_pos (by rfl)];have hrn:=zgc sk.at_ w3;have hb3:=zac w3 (.cells #[.int .i64 sk.at_] 3);have HL3:=hid (show IAt (w3.alloc (.cells #[.int .i64 sk.at_] 3)) (.slice (some ⟨w3.heap.size,0,none⟩) 1 1) [sk.at_]∧Below w2.heap.size w2 (w3.alloc (.cells #[.int .i64 sk.at_] 3)) from ⟨IAt.blk (l:=[sk.at_]) (Blk.new w3 [.int .i64 sk.at_] 3) (by simp),Below.next HBd.out hb3⟩);refine zbe 63 1 #[(0,.tmp 24)] rfl #[(0,.int .i64 sk.at_)] (by kernel_rfl) hrn ?_;refine hK.out _ _ HL3.out.2 (fun _=>?_);clear hK K hrn hb3 HBd;generalize (w3.alloc (.cells #[.int .i64 sk.at_] 3))=w4 at *;generalize w3.heap.size=B4 at *;refine wpAnyH_ready (rs:=[9]) (by kernel_rfl) (by simp) ?_;refine AllReadyH.cons rfl (fun K hK=>?_) AllReadyH.nil;rw[if_pos (by rfl)];go_simp;refine (ze4 j nd.h.env [sk.at_] _ w4 ((HH.out.1.n.kept HB.out.1.bl).kept HL3.out.2) ((HH.out.1.g.kept HB.out.1.bl).kept HL3.out.2) HL3.out.1).mono ?_;rintro _ w5 ⟨rfl,hb5⟩;have HB5:=hid (Below.next HL3.out.2 hb5);refine hK.out _ _ HB5.out (fun _=>?_);clear hK K hb5 HL3;have HQ:Hid (([sk.at_].all fun a=>leqB j.n j.g a nd.h.env)=leqB j.n j.g sk.at_ nd.h.env):=by show _=_;simp
     generalize ([sk.at_].all fun a=>leqB j.n j.g a nd.h.env)=bq at *;have HP:Hid (j.pre nd sk=(bq&&nd.h.rds.all (fun i=>sk.set i.toNat))):=by show _=_;unfold Jd.pre;rw[hgone,HQ.out];rfl
     clear HQ;cases bq
     ·refine wpAnyH_ready (rs:=[10]) (by kernel_rfl) (by simp) ?_;refine AllReadyH.cons rfl (fun K hK=>?_) AllReadyH.nil;rw[if_pos (by rfl)];go_simp;refine hK.out _ _ HB5.out (fun _=>?_);clear hK K;refine wpAnyH_ready (rs:=[11]) (by kernel_rfl) (by simp) ?_;refine AllReadyH.cons rfl (fun K hK=>?_) AllReadyH.nil;rw[if_pos (by rfl)];go_simp;refine hK.out _ _ HB5.out (fun _=>?_);clear hK K;refine wpAnyH_ready (rs:=[12]) (by kernel_rfl) (by simp) ?_;refine AllReadyH.cons rfl (fun K hK=>?_) AllReadyH.nil;rw[if_pos (by rfl)];go_simp;refine hK.out _ _ HB5.out (fun _=>?_);clear hK K;refine zam [13,14] (rest:=4) rfl (by kernel_rfl) (by kernel_rfl) HB5.out ?_;simp only[List.filterMap,zD,zE];iterate 2 go_big_quiet_step (fail)
      refine wpQuiet_nil ?_;clear hC1 hC2 hNE;refine wpAnyH_ready (rs:=[15]) (by kernel_rfl) (by simp) ?_;refine AllReadyH.cons rfl (fun K hK=>?_) AllReadyH.nil;rw[if_neg (zaq (by kernel_rfl))];refine hK.out _ _ HB5.out (fun _=>?_);clear hK K;refine wpAnyH_ready (rs:=[16]) (by kernel_rfl) (by simp) ?_;refine AllReadyH.cons rfl (fun K hK=>?_) AllReadyH.nil;rw[if_neg (zaq (by kernel_rfl))];refine hK.out _ _ HB5.out (fun _=>?_);clear hK K;refine wpAnyH_ready (rs:=[17]) (by kernel_rfl) (by simp) ?_;refine AllReadyH.cons rfl (fun K hK=>?_) AllReadyH.nil;rw[if_neg (zaq (by kernel_rfl))];refine hK.out _ _ HB5.out (fun _=>?_);clear hK K;refine wpAnyH_ready (rs:=[18]) (by kernel_rfl) (by simp) ?_;refine AllReadyH.cons rfl (fun K hK=>?_) AllReadyH.nil;rw[if_pos (by rfl)];go_simp;refine hK.out _ _ HB5.out (fun _=>?_);clear hK K;refine wpAnyH_done (by kernel_rfl) ?_ _;refine⟨(fun c hc=>by cases hc),?_⟩;go_wp2;go_meet
      case rel=>exact⟨by rw[HP.out];rfl,⟨HB.out.1.kept HB5.out,HB.out.2.1.kept HB5.out,HB.out.2.2⟩⟩
     ·refine wpAnyH_ready (rs:=[10]) (by kernel_rfl) (by simp) ?_;refine AllReadyH.cons rfl (fun K hK=>?_) AllReadyH.nil;rw[if_pos (by rfl)];go_simp;refine hK.out _ _ HB5.out (fun _=>?_);clear hK K;refine wpAnyH_ready (rs:=[11]) (by kernel_rfl) (by simp) ?_;refine AllReadyH.cons rfl (fun K hK=>?_) AllReadyH.nil;rw[if_pos (by rfl)];go_simp;refine hK.out _ _ HB5.out (fun _=>?_);clear hK K;refine wpAnyH_ready (rs:=[12]) (by kernel_rfl) (by simp) ?_;refine AllReadyH.cons rfl (fun K hK=>?_) AllReadyH.nil;rw[if_pos (by rfl)];go_simp;refine hK.out _ _ HB5.out (fun _=>?_);clear hK K;refine zam [13,14] (rest:=4) rfl (by kernel_rfl) (by kernel_rfl) HB5.out ?_;simp only[List.filterMap,zD,zE];go_big_quiet_want;refine zaa 71 (.tmp 5) rfl _ 0 (by kernel_rfl) sk.vs _ hC2 Tryz.underlying71 rfl (by rw[Sta.len];kernel_rfl) ?_
      simp only[Act.put,zA,zB,zC];go_big_quiet_on;go_big_quiet_want;refine zaa 65 (.tmp 9) rfl _ 0 (by kernel_rfl) nd.vs _ hC1 Tryz.underlying65 rfl (by kernel_rfl) ?_;simp only[Act.put,zA,zB,zC];go_big_quiet_on;refine wpQuiet_nil ?_;clear hC1 hC2 hNE;refine wpAnyH_ready (rs:=[15]) (by kernel_rfl) (by simp) ?_;refine AllReadyH.cons rfl (fun K hK=>?_) AllReadyH.nil;rw[if_pos (by rfl)];go_simp;refine (zlk nd w5 (HN.out.1.kept (Below.next HB.out.1.bl HB5.out))).mono ?_;rintro _ w6 ⟨v,rfl,hv,hb6⟩;have HB6:=hid (show IAt w6 v nd.h.rds∧Below w2.heap.size w2 w6 from ⟨hv,Below.next HB5.out hb6⟩);refine hK.out _ _ HB6.out.2 (fun _=>?_);clear hK K hv hb6;refine wpAnyH_ready (rs:=[16]) (by kernel_rfl) (by simp) ?_;refine AllReadyH.cons rfl (fun K hK=>?_) AllReadyH.nil;rw[if_pos (by rfl)];go_simp;refine (ztg sk nd.h.rds v w6 HB6.out.1 (by have:=HH.out.2.2.1 k hlt;rw[HND.out] at this;exact this)).mono ?_
      rintro _ w7 ⟨rfl,hb7⟩;have HB7:=hid (Below.next HB6.out.2 hb7);refine hK.out _ _ HB7.out (fun _=>?_);clear hK K hb7 HB6;generalize (nd.h.rds.all fun i=>sk.set i.toNat)=hh at *;refine wpAnyH_ready (rs:=[17]) (by kernel_rfl) (by simp) ?_;refine AllReadyH.cons rfl (fun K hK=>?_) AllReadyH.nil;rw[if_pos (by rfl)];go_simp;refine hK.out _ _ HB7.out (fun _=>?_);clear hK K;refine wpAnyH_ready (rs:=[18]) (by kernel_rfl) (by simp) ?_;refine AllReadyH.cons rfl (fun K hK=>?_) AllReadyH.nil;rw[if_pos (by rfl)];go_simp;refine hK.out _ _ HB7.out (fun _=>?_);clear hK K;refine wpAnyH_done (by kernel_rfl) ?_ _;refine⟨(fun c hc=>by cases hc),?_⟩;go_wp2;go_meet
      case rel=>exact⟨by rw[HP.out];cases hh <;> rfl,⟨HB.out.1.kept HB7.out,HB.out.2.1.kept HB7.out,HB.out.2.2⟩⟩
    ·have p252:∀x:Gr w2,x.w.cell? ⟨w.heap.size+1,252,none⟩=some (.bool true):=fun x=>(HB.out.1.S.kept x.bl).cell 252 (by rw[sk.v252,hgone]);have hNE:Nonempty (Gr w2):=⟨⟨_,Below.refl _ _⟩⟩;have HP:Hid (j.pre nd sk=false):=by show _=_;unfold Jd.pre;rw[hgone];rfl
     refine zag (by kernel_rfl) (by kernel_rfl) ?_;repeat go_big_quiet_step (fail)
     refine wpQuiet_nil ?_;rintro w4 ⟨x4,rfl⟩;have B5:=x4.bl;generalize x4.w=w4 at B5 ⊢;go_wp2;go_meet
     case rel=>exact⟨by rw[HP.out];rfl,⟨HB.out.1.kept B5,HB.out.2.1.kept B5,HB.out.2.2⟩⟩
   case rest =>
    obtain⟨rfl,hI⟩:=hcut;clear HB;have HB:=hid hI.out;clear hI;cases hp:j.pre nd sk
    ·have HF:Hid (j.list b s=none):=by
      show _=_
      rw[HG.out];refine zhg (k:=k+1) ?_ hlt;show (za7 _ k s).bind _=none
      rw[HK.out];show (b.ps k).run j sk=none
      rw[HH.out.2.2.2.1 k hlt,HND.out,hp];rfl
     have bZ:=HB.out.1.Z;clear hp;go_wp2_with (first | (refine zbn rfl 71 #[] rfl #[] rfl (zfs _) ?_) | (refine zae rfl rfl 71 (.tmp 6) (.tmp 36) rfl (w.heap.size+2) Sta.zero.vs (by kernel_rfl) (by kernel_rfl) (Sta.va_one _) bZ rfl (by simp only[List.size_toArray,Sta.len];kernel_rfl) ?_;intro w5 W));refine bodyPost_ret (v:=.tuple #[.agg Sta.zero.vs.toArray,.bool false]) (za1 Tryz.results27 rfl rfl W.blk.range) rfl ⟨_,_,rfl,?_,?_,W.below (by omega) HB.out.1.bl⟩
     ·rw[HF.out];rfl
     ·intro s1 h1;rw[HF.out] at h1;cases h1
    ·have HR:Hid ((b.ps k).run j sk=stp k sk):=by
      show _=_
      rw[HH.out.2.2.2.1 k hlt,HND.out,hp];rfl
     clear hp;have bJ:=HB.out.1.J;have bS:=HB.out.1.S;have bN:=HB.out.2.1;have hC:zcp (stp k sk) j nd sk wc:=by rw[←HND.out];exact HH.out.2.2.2.2 k hlt sk wc HB.out.1.bl
     go_wp2_with (first | (refine wpList_load_mid rfl 48 (.tmp 3) rfl w.heap.size 0 (by kernel_rfl) j.vs _ bJ.range Tryz.underlying48 rfl (by kernel_rfl) ?_) | (refine wpList_load_mid rfl 65 (.tmp 9) rfl BN 0 (by kernel_rfl) nd.vs _ bN.range Tryz.underlying65 rfl (by kernel_rfl) ?_) | (refine wpList_load_mid rfl 71 (.tmp 5) rfl (w.heap.size+1) 0 (by kernel_rfl) sk.vs _ bS.range Tryz.underlying71 rfl (by rw[Sta.len];kernel_rfl) ?_))
     refine Calls.mono hC ?_;rintro _ w6 ⟨s',ok,rfl,hok,hs',hb6⟩;have HB6:=hid (HB.out.1.kept hb6);have HS:=hid (show ok=(stp k sk).isSome∧(∀s1,stp k sk=some s1→s'=s1) from ⟨hok,hs'⟩);have bS6:=HB6.out.S;clear hC bJ bS bN hb6 hok hs';go_upto_region 8 with (refine zae rfl rfl 71 (.tmp 5) (.tmp 42) rfl (w.heap.size+1) s'.vs (by kernel_rfl) (by kernel_rfl) (Sta.va_one _) bS6 (by rw[Sta.len,Sta.len]) (by simp only[List.size_toArray,Sta.len];kernel_rfl) ?_;intro w7 W7)
     have HB7:=hid (HB6.out.wroteS W7);clear bS6 W7 HB6;cases ok
     ·have HF:Hid (j.list b s=none):=by
       show _=_
       rw[HG.out];refine zhg (k:=k+1) ?_ hlt;show (za7 _ k s).bind _=none
       rw[HK.out];show (b.ps k).run j sk=none
       rw[HR.out];exact Option.not_isSome_iff_eq_none.1 (by rw[←HS.out.1];simp)
      have bZ:=HB7.out.Z;go_wp2_with (first | (refine zbn rfl 71 #[] rfl #[] rfl (zfs _) ?_) | (refine zae rfl rfl 71 (.tmp 6) (.tmp 46) rfl (w.heap.size+2) Sta.zero.vs (by kernel_rfl) (by kernel_rfl) (Sta.va_one _) bZ rfl (by simp only[List.size_toArray,Sta.len];kernel_rfl) ?_;intro w5 W));refine bodyPost_ret (v:=.tuple #[.agg Sta.zero.vs.toArray,.bool false]) (za1 Tryz.results27 rfl rfl W.blk.range) rfl ⟨_,_,rfl,?_,?_,W.below (by omega) HB7.out.bl⟩
      ·rw[HF.out];rfl
      ·intro s1 h1;rw[HF.out] at h1;cases h1
     ·go_wp2;go_roundw
      case rel =>
       refine⟨k+1,s',by omega,by go_num,?_,HB7.out⟩;show (za7 _ k s).bind _=some s'
       rw[HK.out];show (b.ps k).run j sk=some s'
       rw[HR.out];have h1:=HS.out.1;cases hq:stp k sk with
       | none=>rw[hq] at h1;cases h1
       | some s1=>rw[HS.out.2 s1 hq]
      case measure=>simp[intOf];omega
  ·have e2:k=len:=by omega
   subst e2;have d:¬(k:Int)<k:=by omega
   have bS:=HI.out.S;have bZ:=HI.out.Z;go_wp2_with (first | (refine wpList_load_mid rfl 71 (.tmp 5) rfl (w.heap.size+1) 0 (by kernel_rfl) sk.vs _ bS.range Tryz.underlying71 rfl (by rw[Sta.len];kernel_rfl) ?_) | (refine zae rfl rfl 71 (.tmp 6) (.tmp 48) rfl (w.heap.size+2) sk.vs (by kernel_rfl) (by kernel_rfl) (Sta.va_one _) bZ (by rw[Sta.len,Sta.len]) (by simp only[List.size_toArray,Sta.len];kernel_rfl) ?_;intro w5 W));refine bodyPost_ret (v:=.tuple #[.agg sk.vs.toArray,.bool true]) (za1 Tryz.results27 rfl rfl W.blk.range) rfl ⟨_,_,rfl,?_,?_,W.below (by omega) HI.out.bl⟩
   ·rw[HG.out,HK.out];rfl
   ·intro s1 h1;rw[HG.out,HK.out] at h1;exact Option.some.inj h1
structure Ew (w:World)(j:Jd)(s:Sta)(u:World):Prop where
 bl:Below w.heap.size w u
 hj:j.At u
 J:Blk u w.heap.size j.vs 48
 S:Blk u (w.heap.size+1) s.vs 71
theorem Ew.kept {w:World}{j:Jd}{s:Sta}{u u':World}(h:Ew w j s u)(hb:Below u.heap.size u u'):Ew w j s u' :=
 ⟨Below.next h.bl hb,h.hj.kept hb,h.J.kept hb,h.S.kept hb⟩
theorem ew_new (w:World)(j:Jd)(s:Sta)(hj:j.At w):Ew w j s ((w.alloc (.cells j.va 48)).alloc (.cells s.va 71)):=by
 have H:=zar [.cells j.va 48,.cells s.va 71] w;have B0:=zap [.cells j.va 48,.cells s.va 71] w;simp only[List.foldl] at H B0;exact⟨B0,hj.kept B0,H 0 (by simp),H 1 (by simp)⟩
theorem zx1 (j:Jd)(s:Sta)(w:World)(hj:j.At w)(ho:j.f.out=-1∨(0≤j.f.out∧j.f.out<j.f.slots.len))(hs:j.f.slots.len≤250) :
    Calls Tryz.prog 28 #[.agg j.va,.agg s.va] w fun e w'=>e=.returned (.bool (j.ends s))∧Below w.heap.size w w':=by
  have HI:=hid (ew_new w j s hj)
  have HO:=hid (show (j.f.out=-1∨(0≤j.f.out∧j.f.out<j.f.slots.len))∧j.f.slots.len≤250∧j.At w from ⟨ho,hs,hj⟩)
  clear hj ho hs
  go_enter Tryz.func28,Tryz.ntmps28
  go_upto_region 1 with fail
  generalize ((w.alloc (.cells j.va 48)).alloc (.cells s.va 71))=w1 at *
  go_cut [19] (fun c wx=>c=.bool ((s.x != -1)&&!(leqB j.n j.g s.x j.f.exc))∧Hid (Ew w j s wx))
  case first =>
    have x1:=HI.out.S.cell 1 s.v1
    cases hx:(s.x != -1)
    · go_wp2
      go_meet
      case rel=>exact⟨by rw[hx];rfl,HI.out⟩
    · have bJ:=HI.out.J
      have c16:=HI.out.J.cell 16 (v:=.int .i64 j.f.exc) rfl
      have hr:=zgc s.x w1
      have hb:=zac w1 (.cells #[.int .i64 s.x] 3)
      have hL:=IAt.blk (l:=[s.x]) (Blk.new w1 [.int .i64 s.x] 3) (by simp)
      have HL:=hid (ze4 j j.f.exc [s.x] _ _ (HI.out.hj.n.kept hb) (HI.out.hj.g.kept hb) hL)
      have HX:=hid (HI.out.kept hb)
      clear hb hL
      go_wp2_with (first | (refine za0 (by kernel_rfl) 48 (.tmp 2) rfl w.heap.size 0 (by kernel_rfl) j.vs _ bJ.range Tryz.underlying48 rfl (by kernel_rfl) ?_) | (refine zej (by kernel_rfl) 63 1 #[(0,.tmp 15)] rfl #[(0,.int .i64 s.x)] rfl hr ?_))
      refine HL.out.mono ?_
      rintro _ w4 ⟨rfl,hb4⟩
      have HX4:=hid (HX.out.kept hb4)
      have HQ:Hid (([s.x].all fun a=>leqB j.n j.g a j.f.exc)=leqB j.n j.g s.x j.f.exc):=by show _=_;simp
      clear x1 bJ c16 hr HL HX hb4
      generalize ([s.x].all fun a=>leqB j.n j.g a j.f.exc)=bq at *
      go_wp2
      go_meet
      case rel=>exact⟨by rw[HQ.out,hx];rfl,HX4.out⟩
  case rest =>
    obtain⟨rfl,hI⟩:=hcut
    clear HI
    have HI:=hid hI.out
    clear hI
    generalize hz:((s.x != -1)&&!(leqB j.n j.g s.x j.f.exc))=zz at *
    have HZ:=hid hz
    clear hz
    cases zz
    · have c19:=HI.out.J.cell 19 (v:=.int .i64 j.f.out) rfl
      have x252:=HI.out.S.cell 252 s.v252
      cases hg:s.gone
      · rw[hg] at x252
        cases hou:(j.f.out==-1)
        · have HF:Hid (j.ends s=(s.set j.f.out.toNat&&belB j.n j.g (zai j.n j.g (j.f.slots.ps j.f.out.toNat) s.at_) j.f.result)):=by show _=_;unfold Jd.ends;rw[HZ.out,hg,hou];rfl
          obtain ⟨on, hon⟩ : ∃ m : Nat, j.f.out = m := ⟨j.f.out.toNat, by have h1 := HO.out.1; have h2 : ¬ j.f.out = -1 := by simpa using hou
                                                                          omega⟩
          have HON:=hid (show j.f.out=on∧on<j.f.slots.len∧on<250 from ⟨hon,by have:=HO.out;omega,by have:=HO.out;omega⟩)
          rw[hon] at c19 hou
          clear hon
          go_upto_region 6 with fail
          clear x252 c19 hou
          have hon':(on:Int)<250:=by have:=HON.out;omega
          cases hset:s.set on
          · have HF2:Hid (j.ends s=false):=by show _=_;rw[HF.out,HON.out.1,Int.toNat_natCast,hset];rfl
            have pS:∀x:Gr wc,x.w.cell? ⟨w.heap.size+1,2+on,none⟩=some (.bool false):=fun x=>(HI.out.S.kept x.bl).cell (2+on) (by rw[s.v2 HON.out.2.2,hset])
            have hNE:Nonempty (Gr wc):=⟨⟨_,Below.refl _ _⟩⟩
            refine zag (by kernel_rfl) (by kernel_rfl) ?_
            repeat go_big_quiet_step (fail)
            refine wpQuiet_nil ?_
            rintro w4 ⟨x4,rfl⟩
            have B5:=x4.bl
            generalize x4.w=w4 at B5 ⊢
            go_wp2
            go_ret
            exact⟨zab HF2.out.symm,Below.next HI.out.bl B5⟩
          · have HF2:Hid (j.ends s=belB j.n j.g (zai j.n j.g (j.f.slots.ps on) s.at_) j.f.result):=by show _=_;rw[HF.out,HON.out.1,Int.toNat_natCast,hset];rfl
            have hao:=HI.out.hj.f.slots.nil (by have:=HON.out.2.1;omega)
            have hC0:∀q,(∃x:Wd (fun q=>Below wc.heap.size wc q),q=x.w)→q.rangeAt w.heap.size 0 j.vs:=by rintro _ ⟨x,rfl⟩;exact (HI.out.J.kept x.2).range
            have hC3:∀q,(∃x:Wd (fun q=>Below wc.heap.size wc q),q=x.w)→q.rangeAt j.f.slots.b (j.f.slots.o+on*5) (j.f.slots.ps on).vs:=by rintro _ ⟨x,rfl⟩;exact C5.row ((HI.out.hj.f.slots.kept x.2).cells HON.out.2.1)
            have hC4:∀q,(∃x:Wd (fun q=>Below wc.heap.size wc q),q=x.w)→q.rangeAt w.heap.size 9 j.f.result.vs:=by
              rintro _ ⟨x,rfl⟩
              have h1:=HI.out.J.kept x.2
              intro i v hv
              match i,hv with
              | 0,hv=>rw[←Option.some.inj hv];exact h1.cell 9 rfl
              | 1,hv=>rw[←Option.some.inj hv];exact h1.cell 10 rfl
              | 2,hv=>rw[←Option.some.inj hv];exact h1.cell 11 rfl
              | 3,hv=>rw[←Option.some.inj hv];exact h1.cell 12 rfl
              | 4,hv=>rw[←Option.some.inj hv];exact h1.cell 13 rfl
              | _+5,hv=>simp[Ty.vs] at hv
            have pS:∀x:Wd (fun q=>Below wc.heap.size wc q),x.w.cell? ⟨w.heap.size+1,2+on,none⟩=some (.bool true):=fun x=>(HI.out.S.kept x.2).cell (2+on) (by rw[s.v2 HON.out.2.2,hset])
            have p0:∀x:Wd (fun q=>Below wc.heap.size wc q),x.w.cell? ⟨w.heap.size,0,none⟩=some (.slice j.n.ao j.n.len j.n.cap):=fun x=>(HI.out.J.kept x.2).cell 0 rfl
            have p1:∀x:Wd (fun q=>Below wc.heap.size wc q),x.w.cell? ⟨w.heap.size,1,none⟩=some (.slice j.g.ao j.g.len j.g.cap):=fun x=>(HI.out.J.kept x.2).cell 1 rfl
            have p17:∀x:Wd (fun q=>Below wc.heap.size wc q),x.w.cell? ⟨w.heap.size,17,none⟩=some (.slice (some ⟨j.f.slots.b,j.f.slots.o,none⟩) j.f.slots.len j.f.slots.cap):=fun x=>(HI.out.J.kept x.2).cell 17 (by rw[←hao];rfl)
            have q0:∀x:Wd (fun q=>Below wc.heap.size wc q),x.w.cell? ⟨w.heap.size+1,0,none⟩=some (.int .i64 s.at_):=fun x=>(HI.out.S.kept x.2).cell 0 s.v0
            have hdl:(on:Int)<j.f.slots.len:=by have:=HON.out.2.1;omega
            have hNE:Nonempty (Wd (fun q=>Below wc.heap.size wc q)):=⟨⟨_,Below.refl _ _⟩⟩
            clear hao
            refine zal (fun q=>Below wc.heap.size wc q) [0,1,2,3,4,5,6,7,8,9,10,11,12,13,14,15,17,18,19] 4 (by kernel_rfl) rfl (by kernel_rfl) (zbt (by kernel_rfl)) ((Below.refl _ _).drew) ?_
            simp only[List.filterMap,zD,zE]
            iterate 7 go_big_quiet_step (fail)
            go_big_quiet_want
            refine zaa 48 (.tmp 2) rfl _ 0 (by kernel_rfl) j.vs _ hC0 Tryz.underlying48 rfl (by kernel_rfl) ?_
            simp only[Act.put,zA,zB,zC]
            go_big_quiet_on
            iterate 5 go_big_quiet_step (fail)
            go_big_quiet_want
            refine zaa 38 (.tmp 47) rfl j.f.slots.b (j.f.slots.o+on*5) (by kernel_rfl) (j.f.slots.ps on).vs _ hC3 Tryz.underlying38 rfl (by kernel_rfl) ?_
            simp only[Act.put,zA,zB,zC]
            go_big_quiet_on
            iterate 4 go_big_quiet_step (fail)
            go_big_quiet_want
            refine zaa 38 (.tmp 53) rfl _ 9 (by kernel_rfl) j.f.result.vs _ hC4 Tryz.underlying38 rfl (by kernel_rfl) ?_
            simp only[Act.put,zA,zB,zC]
            go_big_quiet_on
            refine wpQuiet_nil ?_
            clear hC0 hC3 hC4 pS p0 p1 p17 q0 hdl hNE
            have HBd:=hid (show Below wc.heap.size wc wc.drew from (Below.refl _ _).drew)
            generalize wc.drew=w3 at *
            refine wpAnyH_ready (rs:=[16]) (by kernel_rfl) (by simp) ?_
            refine AllReadyH.cons rfl (fun K hK=>?_) AllReadyH.nil
            rw[if_pos (by rfl)]
            go_simp
            refine (zdh 0 j (j.f.slots.ps on) s.at_ w3 (HI.out.hj.n.kept HBd.out) (HI.out.hj.g.kept HBd.out) ((HI.out.hj.f.slots.kept HBd.out).part HON.out.2.1) (by omega)).mono ?_
            rintro _ w4 ⟨v,rfl,vA,vB,vS,hb4⟩
            have HB4:=hid (show Below wc.heap.size wc w4∧v.At w4∧v.same (zai j.n j.g (j.f.slots.ps on) s.at_)=true from ⟨Below.next HBd.out hb4,vA,vS⟩)
            refine hK.out _ _ HB4.out.1 (fun _=>?_)
            clear hK K hb4 vA vB vS HBd
            refine wpAnyH_ready (rs:=[20]) (by kernel_rfl) (by simp) ?_
            refine AllReadyH.cons rfl (fun K hK=>?_) AllReadyH.nil
            rw[if_pos (by rfl)]
            go_simp
            refine (zdi j.n j.g v j.f.result w4 (HI.out.hj.n.kept HB4.out.1) (HI.out.hj.g.kept HB4.out.1) HB4.out.2.1 (HI.out.hj.f.result.kept HB4.out.1)).mono ?_
            rintro _ w5 ⟨rfl,hb5⟩
            have HB5:=hid (Below.next HB4.out.1 hb5)
            have HBB:Hid (belB j.n j.g v j.f.result=j.ends s):=by
              show _=_
              rw[HF2.out]
              exact zck HB4.out.2.1.nd (zbf (HI.out.hj.f.slots.part HON.out.2.1).nd) HB4.out.2.2
            refine hK.out _ _ HB5.out (fun _=>?_)
            clear hK K hb5 HB4
            generalize belB j.n j.g v j.f.result=bb at *
            refine wpAnyH_ready (rs:=[21]) (by kernel_rfl) (by simp) ?_
            refine AllReadyH.cons rfl (fun K hK=>?_) AllReadyH.nil
            rw[if_pos (by rfl)]
            go_simp
            refine hK.out _ _ HB5.out (fun _=>?_)
            clear hK K
            refine wpAnyH_ready (rs:=[22]) (by kernel_rfl) (by simp) ?_
            refine AllReadyH.cons rfl (fun K hK=>?_) AllReadyH.nil
            rw[if_pos (by rfl)]
            go_simp
            refine hK.out _ _ HB5.out (fun _=>?_)
            clear hK K
            refine wpAnyH_done (by kernel_rfl) ?_ _
            refine⟨(fun c hc=>by cases hc),?_⟩
            go_wp2
            go_ret
            exact⟨zab HBB.out,Below.next HI.out.bl HB5.out⟩
        · have HF:Hid (j.ends s=false):=by show _=_;unfold Jd.ends;rw[HZ.out,hg,hou];rfl
          go_wp2
          go_ret
          exact⟨zab HF.out.symm,HI.out.bl⟩
      · rw[hg] at x252
        cases hou:(j.f.out==-1)
        all_goals
          have HF:Hid (j.ends s=(j.f.out==-1)):=by show _=_;unfold Jd.ends;rw[HZ.out,hg,hou];rfl
          go_wp2
          go_ret
          exact⟨zab (by rw[HF.out,hou]),HI.out.bl⟩
    · have HF:Hid (j.ends s=false):=by show _=_;unfold Jd.ends;rw[HZ.out];rfl
      go_wp2
      go_ret
      exact⟨zab HF.out.symm,HI.out.bl⟩
def st0 (bot:Int)(k:Nat):Sta:=⟨bot,-1,fun i=>decide (i<k),false⟩
theorem zxn (bot:Int)(k:Nat):({ st0 bot k with set:=upd (st0 bot k).set k }:Sta)=st0 bot (k+1):=by
 have e:upd (fun i=>decide (i<k)) k=fun i=>decide (i<k+1):=by
  funext i
  unfold upd;by_cases h:i=k
  ·subst h;simp
  ·rw[if_neg h];show decide (i<k)=decide (i<k+1)
   rw[decide_eq_decide];omega
 show (⟨bot,-1,upd (fun i=>decide (i<k)) k,false⟩:Sta)=⟨bot,-1,fun i=>decide (i<k+1),false⟩
 rw[e]
theorem zsw (j:Jd)(w:World)(hj:j.At w)(ho:j.f.out=-1∨(0≤j.f.out∧j.f.out<j.f.slots.len))(hs:j.f.slots.len≤250)(hc:1+j.f.caps.len≤j.f.slots.len)
  (hl:∀s u,Below w.heap.size w u→zbs (j.list j.f.body s) j j.f.body s u) :
  Calls Tryz.prog 16 #[.agg j.va] w fun e w'=>e=.returned (.bool j.right)∧Below w.heap.size w w':=by
 have B0:=zac w (.cells j.va 48);have bJ0:Blk (w.alloc (.cells j.va 48)) w.heap.size j.vs 48:=Blk.new w _ _;have HO:=hid (show (j.f.out=-1∨(0≤j.f.out∧j.f.out<j.f.slots.len))∧j.f.slots.len≤250∧j.At w∧1+j.f.caps.len≤j.f.slots.len∧(∀s u,Below w.heap.size w u→zbs (j.list j.f.body s) j j.f.body s u) from ⟨ho,hs,hj,hc,hl⟩);have hcl:j.f.caps.len≤249:=by omega
 clear hj ho hs hc hl;go_enter Tryz.func16,Tryz.ntmps16
 go_upto_region 1 with fail
 generalize (w.alloc (.cells j.va 48))=w1 at *;have c2:=bJ0.cell 2 (v:=.int .i64 j.bot) rfl;have hN:=zac w1 (.cells (st0 j.bot 0).vs.toArray 71);have HI:=hid (show Below w.heap.size w (w1.alloc (.cells (st0 j.bot 0).vs.toArray 71))∧Blk (w1.alloc (.cells (st0 j.bot 0).vs.toArray 71)) w.heap.size j.vs 48∧Blk (w1.alloc (.cells (st0 j.bot 0).vs.toArray 71)) w1.heap.size (st0 j.bot 0).vs 71∧w.heap.size<w1.heap.size from ⟨Below.next B0 hN,bJ0.kept hN,Blk.new w1 _ _,bJ0.lt⟩);clear B0 hN bJ0;go_upto_region 2 with (first | (refine zbn rfl 71 #[(0,.tmp 7),(1,.const (.int .i64 (-1)))] rfl #[(0,.int .i64 j.bot),(1,.int .i64 (-1))] rfl (zmc j.bot (-1) _) ?_) | (refine zao rfl rfl 71 rfl (.tmp 3) (.tmp 8) rfl Sta.zero.vs (alloc_st _) rfl (st0 j.bot 0).vs.toArray (by kernel_rfl) (by kernel_rfl) (by simp only[List.size_toArray,Sta.len]) (by simp only[List.size_toArray,Sta.len];kernel_rfl) (by simpa using Sta.va_one _) ?_))
 clear c2;generalize (w1.alloc (.cells (st0 j.bot 0).vs.toArray 71))=w2 at *;generalize w1.heap.size=BS at *;simp only[Act.put,zA,zB,zC];have c14:=HI.out.2.1.cell 14 (v:=.slice j.f.caps.ao j.f.caps.len j.f.caps.cap) rfl;go_wp2;clear c14;go_loopw [14] (fun i wr=>∃(k:Nat),k≤1+j.f.caps.len∧i=.int .i64 k∧Below w.heap.size w wr∧Blk wr w.heap.size j.vs 48∧Blk wr BS (st0 j.bot k).vs 71∧w.heap.size<BS) (fun i _=>1+j.f.caps.len - (intOf i).toNat)
 case atStart=>exact⟨0,Nat.zero_le _,rfl,HI.out⟩
 case round =>
  clear HI;obtain⟨k,hk,rfl,hI⟩:=hrel;have HI:=hid hI;clear hI;by_cases hlt:k<1+j.f.caps.len
  ·have ij:(k:Int)<1+j.f.caps.len:=by omega
   have h250:k<250:=by omega
   have d2:=HI.out.2.2.1.cell (2+k) ((st0 j.bot k).v2 h250);have g2:=HI.out.2.2.1.frozen (2+k);go_wp2;go_roundw
   case rel =>
    have W1:=zbo (i:=2+k) HI.out.2.2.1 (.bool true);rw[Sta.put2 _ h250,zxn] at W1;exact⟨k+1,by omega,by go_num,W1.below (by have:=HI.out.2.2.2;omega) HI.out.1,W1.keep HI.out.2.1 (by have:=HI.out.2.2.2;omega),W1.blk,HI.out.2.2.2⟩
   case measure=>simp[intOf];omega
  ·have e2:k=1+j.f.caps.len:=by omega
   subst e2;have d:¬((1+j.f.caps.len:Nat):Int)<1+j.f.caps.len:=by omega
   have bJ:=HI.out.2.1;have bS:=HI.out.2.2.1;have c18:=bJ.cell 18 (v:=.slice j.f.body.ao j.f.body.len j.f.body.cap) rfl;have hC:=HO.out.2.2.2.2 (st0 j.bot (1+j.f.caps.len)) wr HI.out.1;have HE:Hid (st0 j.bot (1+j.f.caps.len)=j.start):=by show _=_;rfl
   generalize st0 j.bot (1+j.f.caps.len)=ss at *;go_wp2_with (first | (refine wpList_load_mid rfl 48 (.tmp 1) rfl w.heap.size 0 (by kernel_rfl) j.vs _ bJ.range Tryz.underlying48 rfl (by kernel_rfl) ?_) | (refine wpList_load_mid rfl 71 (.tmp 3) rfl BS 0 (by kernel_rfl) ss.vs _ bS.range Tryz.underlying71 rfl (by rw[Sta.len];kernel_rfl) ?_))
   refine Calls.mono hC ?_;rintro _ w6 ⟨s',ok,rfl,hok,hs',hb6⟩;have HB6:=hid (show Below w.heap.size w w6∧Blk w6 w.heap.size j.vs 48∧Blk w6 BS ss.vs 71∧w.heap.size<BS from ⟨Below.next HI.out.1 hb6,HI.out.2.1.kept hb6,HI.out.2.2.1.kept hb6,HI.out.2.2.2⟩);have HS:=hid (show ok=(j.list j.f.body ss).isSome∧(∀s1,j.list j.f.body ss=some s1→s'=s1) from ⟨hok,hs'⟩);have bS6:=HB6.out.2.2.1;clear hC bJ bS hb6 hok hs' c18 HI;go_upto_region 8 with (refine zae rfl rfl 71 (.tmp 3) (.tmp 28) rfl BS s'.vs (by kernel_rfl) (by kernel_rfl) (Sta.va_one _) bS6 (by rw[Sta.len,Sta.len]) (by simp only[List.size_toArray,Sta.len];kernel_rfl) ?_;intro w7 W7)
   have HB7:=hid (show Below w.heap.size w w7∧Blk w7 w.heap.size j.vs 48∧Blk w7 BS s'.vs 71 from ⟨W7.below (by have:=HB6.out.2.2.2;omega) HB6.out.1,W7.keep HB6.out.2.1 (by have:=HB6.out.2.2.2;omega),W7.blk⟩)
   clear bS6 W7 HB6;cases ok
   ·have HF:Hid (j.right=false):=by
     show _=_
     unfold Jd.right;rw[←HE.out];have h1:=HS.out.1;cases hq:j.list j.f.body ss with
     | none=>rfl
     | some s1=>rw[hq] at h1;cases h1
    go_wp2;go_ret;exact⟨zab HF.out.symm,HB7.out.1⟩
   ·have HF:Hid (j.right=j.ends s'):=by
     show _=_
     unfold Jd.right;rw[←HE.out];have h1:=HS.out.1;cases hq:j.list j.f.body ss with
     | none=>rw[hq] at h1;cases h1
     | some s1=>rw[HS.out.2 s1 hq]
    have bJ:=HB7.out.2.1;have bS:=HB7.out.2.2;have hE:=zx1 j s' w7 (HO.out.2.2.1.kept HB7.out.1) HO.out.1 HO.out.2.1;go_wp2_with (first | (refine za0 (by kernel_rfl) 48 (.tmp 1) rfl w.heap.size 0 (by kernel_rfl) j.vs _ bJ.range Tryz.underlying48 rfl (by kernel_rfl) ?_) | (refine za0 (by kernel_rfl) 71 (.tmp 3) rfl BS 0 (by kernel_rfl) s'.vs _ bS.range Tryz.underlying71 rfl (by rw[Sta.len];kernel_rfl) ?_))
    refine Calls.mono hE ?_;rintro _ w8 ⟨rfl,hb8⟩;clear bJ bS hE;rw[←HF.out];go_wp2;go_ret;exact⟨rfl,Below.next HB7.out.1 hb8⟩
end
end Go.Proofs.YtgioppfoceddfaaGreat
