import Derived.Test.YtfobijdkoeifjaaGreatDoorP19
import Derived.Deep.DeepCutAuto
import Derived.Deep.CutBlock
import Derived.Test.YtfobijdkoeifjaaGreatDoorP9
import Derived.BigQuiet
set_option maxRecDepth 100000
set_option maxHeartbeats 32000000
namespace Go.Proofs.YtfobijdkoeifjaaGreatDoor
section
open Go Go.RowKit
theorem zdf {ops:Array Oper}{rest:List Oper}{o1 o2 o3:Oper}{a:Act}{w:World}{Q:Exit→Act→World→Prop}(hg1:o1.guard=none)(hg2:o2.guard=none)(hg3:o3.guard=none)(ty:TypeId)(h1:o1.op=.alloc ty)(z:Operand)(h2:o2.op=.assign z)(x y:Operand)(h3:o3.op=.store ty x y)
  (zs:List Value) (hz:(Instr.alloc ty true (.tuple #[])).run Tryz.prog w=.ok (.pointer (some ⟨w.heap.size,0,none⟩)) (w.alloc (.cells zs.toArray ty))) (hd3:o3.dst=none)
  (v:Value) (hv:(a.put o1.dst (.pointer (some ⟨w.heap.size,0,none⟩))).eval z=v)
  (cells:Array Value) (hx:((a.put o1.dst (.pointer (some ⟨w.heap.size,0,none⟩))).put o2.dst v).eval x=.pointer (some ⟨w.heap.size,0,none⟩)) (hy:((a.put o1.dst (.pointer (some ⟨w.heap.size,0,none⟩))).put o2.dst v).eval y=.agg cells)
  (hl:zs.length=cells.size) (hi:(Tryz.prog.info? ty).map (·.size)=some cells.size) (hc:cells.all (·.oneCell')=true)
  (h:wpList Tryz.prog ops Q rest ((a.put o1.dst (.pointer (some ⟨w.heap.size,0,none⟩))).put o2.dst v) (w.alloc (.cells cells ty))):wpList Tryz.prog ops Q (o1 :: o2 :: o3 :: rest) a w:=by
 refine wpList_plain hg1 fun _ hK=>?_;unfold Oper.wp execOp;simp only[h1,Sem.run_bind,hz,Result.andThen_ok,Sem.run_pure];refine hK _ _ ?_;refine wpList_plain hg2 fun _ hK2=>?_;unfold Oper.wp execOp;simp only[h2,Sem.run_pure];refine hK2 _ _ ?_;rw[hv];refine wpList_store_mid hg3 ty x y h3 w.heap.size 0 cells hx hy (fun j hj=>⟨?_,?_⟩) hi hc ?_
 ·have:j<zs.length:=by omega
  show ((w.alloc (.cells zs.toArray ty)).cell? ⟨w.heap.size,0+j,none⟩).isSome=true
  simp[this]
 ·simp
 ·have k:=zdv w ty cells.toList [] zs (by simpa using hl);simp only[List.nil_append,List.length_nil] at k;rw[k,hd3];exact h
theorem zew (f:Cf)(a:Int)(w:World):Calls Tryz.prog 38 #[.agg f.vs.toArray,.int .i64 a] w fun e w'=>e=.returned (.bool (f.pl a))∧Below w.heap.size w w':=by
 have B0:=hyd (zac w (.cells f.vs.toArray 44));have b:=Blk.new w f.vs 44;have c14:=b.cell 14 rfl;have HF:Hid (f.pl a=(decide (0≤a)&&decide (a<f.cd.len))):=rfl;generalize f.pl a=F at *;generalize f.vs.toArray=V at *;clear b;by_cases h1:0≤a
 ·by_cases h2:a<f.cd.len
  ·have HG:Hid (F=true):=by show _=_;rw[HF.out,decide_eq_true h1,decide_eq_true h2];rfl
   go_enter Tryz.func38,Tryz.ntmps38
   go_wp2;go_ret;exact⟨zab HG.out.symm,B0.out⟩
  ·have HG:Hid (F=false):=by show _=_;rw[HF.out,decide_eq_true h1,decide_eq_false h2];rfl
   go_enter Tryz.func38,Tryz.ntmps38
   go_wp2;go_ret;exact⟨zab HG.out.symm,B0.out⟩
 ·have HG:Hid (F=false):=by show _=_;rw[HF.out,decide_eq_false h1];rfl
  go_enter Tryz.func38,Tryz.ntmps38
  go_wp2;go_ret;exact⟨zab HG.out.symm,B0.out⟩
structure Agd (f:Cf):Prop where
 jmp:∀i,i<f.cd.len→(f.cd.x i).op=24∨(f.cd.x i).op=25→(i:Int)<(f.cd.x i).a
 han:∀i,i<f.hd.len→(f.hd.x i).tw_≤(f.hd.x i).at_
 few:f.cd.len≤2000
theorem zlu (f:Cf)(w:World)(hf:f.At w)(hA:Agd f):Calls Tryz.prog 37 #[.agg f.vs.toArray] w fun e w'=>e=.returned (.bool true)∧Below w.heap.size w w':=by
 have H2:=hyd (Fx.new w f hf);have hbd:=hf.cd.bound;have hbd2:=hf.hd.bound;have HNC:=hyd hf.cd.nil;have HNH:=hyd hf.hd.nil;have HA:=hyd hA;have hfew:(f.cd.len:Int)≤2000:=by have:=hA.few;omega
 clear hf hA;generalize hw:w.alloc (.cells f.vs.toArray 44)=u2 at *;go_enter Tryz.func37,Tryz.ntmps37
 go_upto_region 1 with fail
 clear hw;have c14:=H2.out.b.cell 14 rfl;have n1:¬(2000:Int)<f.cd.len:=by omega
 go_upto_region 3 with fail
 go_upto_block 0 with fail
 clear n1;go_cut [15] (fun _ wx=>Hid (Fx w f w.heap.size wx))
 case first =>
  go_wp2_with fail
  go_loopw [15] (fun i wr=>∃(j:Nat),j≤f.cd.len∧i=.int .i64 j∧Fx w f w.heap.size wr) (fun i _=>f.cd.len - (intOf i).toNat)
  case atStart=>exact⟨0,Nat.zero_le _,rfl,H2.out⟩
  case round =>
   clear H2 c14;obtain⟨j,hj,rfl,hB⟩:=hrel;have HB:=hyd hB;clear hB;by_cases hlt:j<f.cd.len
   ·have ij:(j:Int)<f.cd.len:=by omega
    have r0:=HB.out.f.cd.row j hlt;have HJ:=hyd (HA.out.jmp j hlt);rw[HNC.out (by omega)];generalize f.cd.x j=x at *;go_upto_region 6 with (first | (refine wpList_load_mid rfl 50 (.tmp 18) rfl f.cd.b (f.cd.o+j*7) (by kernel_rfl) x.vs _ r0 Tryz.underlying50 rfl (by kernel_rfl) ?_) | (refine zdf rfl rfl rfl 50 rfl (.tmp 17) rfl (.tmp 4) (.tmp 19) rfl zfm (zem _) rfl (.int .i64 j) (by kernel_rfl) x.vs.toArray (by kernel_rfl) (by kernel_rfl) rfl (by kernel_rfl) (by simpa using x.vs_one) ?_))
    have B1:=zac wr (.cells x.vs.toArray 50);have HU:=hyd (show Fx w f w.heap.size (wr.alloc (.cells x.vs.toArray 50))∧Blk _ wr.heap.size x.vs 50 from ⟨HB.out.kept B1,Blk.new wr _ _⟩);clear r0 HB B1;generalize wr.alloc (.cells x.vs.toArray 50)=U at *;generalize wr.heap.size=BX at *;have d0:=HU.out.2.cell 0 rfl;have d1:=HU.out.2.cell 1 rfl;generalize x.op=op at *;generalize x.a=xa at *;by_cases k1:op=24
    ·have k2:(j:Int)<xa:=HJ.out (Or.inl k1);have k3:¬xa≤(j:Int):=by omega
     have k4:(0:Int)≤xa:=by omega
     subst k1;clear k2;go_wp2;go_roundw
     case rel=>exact⟨j+1,by omega,by go_num,HU.out.1⟩
     case measure=>simp[intOf];omega
    ·by_cases k5:op=25
     ·have k2:(j:Int)<xa:=HJ.out (Or.inr k5);have k3:¬xa≤(j:Int):=by omega
      have k4:(0:Int)≤xa:=by omega
      subst k5;clear k2 k1;go_wp2;go_roundw
      case rel=>exact⟨j+1,by omega,by go_num,HU.out.1⟩
      case measure=>simp[intOf];omega
     ·have e1:(op==24)=false:=by simpa using k1
      have e2:(op==25)=false:=by simpa using k5
      clear k1 k5;go_wp2;go_roundw
      case rel=>exact⟨j+1,by omega,by go_num,HU.out.1⟩
      case measure=>simp[intOf];omega
   ·have ij:¬(j:Int)<f.cd.len:=by omega
    go_wp2;go_meet
    case rel=>exact HB.out
 case rest =>
 have H3:=hyd hcut.out;clear hcut H2 c14;have c15:=H3.out.b.cell 15 rfl;go_wp2;clear c15;go_loopw [44] (fun i wr=>∃(j:Nat),j≤f.hd.len∧i=.int .i64 j∧Fx w f w.heap.size wr) (fun i _=>f.hd.len - (intOf i).toNat)
 case atStart=>exact⟨0,Nat.zero_le _,rfl,H3.out⟩
 case round =>
  clear H3;obtain⟨j,hj,rfl,hB⟩:=hrel;have HB:=hyd hB;clear hB;by_cases hlt:j<f.hd.len
  ·have ij:(j:Int)<f.hd.len:=by omega
   have r0:=HB.out.f.hd.row j hlt;have HJ:=hyd (HA.out.han j hlt);rw[HNH.out (by omega)];generalize f.hd.x j=x at *;go_upto_region 13 with (first | (refine wpList_load_mid rfl 123 (.tmp 46) rfl f.hd.b (f.hd.o+j*3) (by kernel_rfl) x.vs _ r0 Tryz.underlying123 rfl (by kernel_rfl) ?_) | (refine zao rfl rfl 123 rfl (.tmp 7) (.tmp 47) rfl z_hn (ze6 _) rfl x.vs.toArray (by kernel_rfl) (by kernel_rfl) rfl (by kernel_rfl) (by simpa using x.vs_one) ?_))
   have B1:=zac wr (.cells x.vs.toArray 123);have HU:=hyd (show Fx w f w.heap.size (wr.alloc (.cells x.vs.toArray 123))∧Blk _ wr.heap.size x.vs 123 from ⟨HB.out.kept B1,Blk.new wr _ _⟩);clear r0 HB B1;generalize wr.alloc (.cells x.vs.toArray 123)=U at *;generalize wr.heap.size=BX at *;have d2:=HU.out.2.cell 2 rfl;have rF:=HU.out.1.b.range;have h0:=zew f x.at_ U;generalize f.pl x.at_=pb at *;go_wp2_with (refine wpList_load_mid rfl 44 (.tmp 1) rfl w.heap.size 0 (by kernel_rfl) f.vs _ rF Tryz.underlying44 rfl (by kernel_rfl) ?_)
   refine h0.mono ?_;rintro _ u4 ⟨rfl,hb⟩;have H4:=hyd (show Fx w f w.heap.size u4∧Blk u4 BX x.vs 123 from ⟨HU.out.1.kept hb,HU.out.2.kept hb⟩);clear h0 hb HU rF d2;cases pb
   ·go_wp2;go_roundw
    case rel=>exact⟨j+1,by omega,by go_num,H4.out.1⟩
    case measure=>simp[intOf];omega
   ·have d0:=H4.out.2.cell 0 rfl;have d1:=H4.out.2.cell 1 rfl;have d2:=H4.out.2.cell 2 rfl;have c14:=H4.out.1.b.cell 14 rfl;have k1:¬max x.fr x.at_<min x.tw_ f.cd.len:=by have:=HJ.out;omega
    go_wp2;go_roundw
    case rel=>exact⟨j+1,by omega,by go_num,H4.out.1⟩
    case measure=>simp[intOf];omega
  ·have ij:¬(j:Int)<f.hd.len:=by omega
   go_wp2;go_ret;exact⟨rfl,HB.out.bl⟩
end
end Go.Proofs.YtfobijdkoeifjaaGreatDoor
