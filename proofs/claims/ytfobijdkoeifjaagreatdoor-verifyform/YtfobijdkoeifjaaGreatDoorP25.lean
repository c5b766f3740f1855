import Derived.Test.YtfobijdkoeifjaaGreatDoorP21
import Derived.Deep.DeepCutAuto
import Derived.Deep.CutBlock
import Derived.Test.YtfobijdkoeifjaaGreatDoorP14
import Derived.Test.YtfobijdkoeifjaaGreatDoorP15
import Derived.Test.YtfobijdkoeifjaaGreatDoorP23
import Derived.Test.YtfobijdkoeifjaaGreatDoorP10
import Derived.Test.YtfobijdkoeifjaaGreatDoorP8
import Derived.BigQuiet
set_option maxRecDepth 100000
set_option maxHeartbeats 32000000
namespace Go.Proofs.YtfobijdkoeifjaaGreatDoor
section
open Go Go.RowKit
theorem zdd {ops:Array Oper}{rest:List Oper}{o1 o2 o3:Oper}{a:Act}{w:World}{Q:Exit→Act→World→Prop}(hg1:o1.guard=none)(hg2:o2.guard=none)(hg3:o3.guard=none)(ty:TypeId)(h1:o1.op=.alloc ty)(z:Operand)(h2:o2.op=.assign z)(x y:Operand)(h3:o3.op=.store ty x y)
  (zs:List Value) (hz:(Instr.alloc ty true (.tuple #[])).run Tryz.prog w=.ok (.pointer (some ⟨w.heap.size,0,none⟩)) (w.alloc (.cells zs.toArray ty))) (hd3:o3.dst=none)
  (v:Value) (hv:(a.put o1.dst (.pointer (some ⟨w.heap.size,0,none⟩))).eval z=v)
  (cells:Array Value) (hx:((a.put o1.dst (.pointer (some ⟨w.heap.size,0,none⟩))).put o2.dst v).eval x=.pointer (some ⟨w.heap.size,0,none⟩)) (hy:((a.put o1.dst (.pointer (some ⟨w.heap.size,0,none⟩))).put o2.dst v).eval y=.agg cells)
  (hl:zs.length=cells.size) (hi:(Tryz.prog.info? ty).map (·.size)=some cells.size) (hc:cells.all (·.oneCell')=true)
  (h:wpList Tryz.prog ops Q rest ((a.put o1.dst (.pointer (some ⟨w.heap.size,0,none⟩))).put o2.dst v) (w.alloc (.cells cells ty))):wpList Tryz.prog ops Q (o1 :: o2 :: o3 :: rest) a w:=by
 refine wpList_plain hg1 fun _ hK=>?_;unfold Oper.wp execOp;simp only[h1,Sem.run_bind,hz,Result.andThen_ok,Sem.run_pure];refine hK _ _ ?_;refine wpList_plain hg2 fun _ hK2=>?_;unfold Oper.wp execOp;simp only[h2,Sem.run_pure];refine hK2 _ _ ?_;rw[hv];refine wpList_store_mid hg3 ty x y h3 w.heap.size 0 cells hx hy (fun j hj=>⟨?_,?_⟩) hi hc ?_
 ·have:j<zs.length:=by omega
  show ((w.alloc (.cells zs.toArray ty)).cell? ⟨w.heap.size,0+j,none⟩).isSome=true
  simp[this]
 ·simp
 ·have k:=zdx w ty cells.toList [] zs (by simpa using hl);simp only[List.nil_append,List.length_nil] at k;rw[k,hd3];exact h
theorem ze0 (f:Cf)(a:Int)(w:World):Calls Tryz.prog 38 #[.agg f.vs.toArray,.int .i64 a] w fun e w'=>e=.returned (.bool (f.pl a))∧Below w.heap.size w w':=by
 have B0:=hyd (zac w (.cells f.vs.toArray 44));have b:=Blk.new w f.vs 44;have c14:=b.cell 14 rfl;have HF:Hid (f.pl a=(decide (0≤a)&&decide (a<f.cd.len))):=rfl;generalize f.pl a=F at *;generalize f.vs.toArray=V at *;clear b;by_cases h1:0≤a
 ·by_cases h2:a<f.cd.len
  ·have HG:Hid (F=true):=by show _=_;rw[HF.out,decide_eq_true h1,decide_eq_true h2];rfl
   go_enter Tryz.func38,Tryz.ntmps38
   go_wp2;go_ret;exact⟨zaa HG.out.symm,B0.out⟩
  ·have HG:Hid (F=false):=by show _=_;rw[HF.out,decide_eq_true h1,decide_eq_false h2];rfl
   go_enter Tryz.func38,Tryz.ntmps38
   go_wp2;go_ret;exact⟨zaa HG.out.symm,B0.out⟩
 ·have HG:Hid (F=false):=by show _=_;rw[HF.out,decide_eq_false h1];rfl
  go_enter Tryz.func38,Tryz.ntmps38
  go_wp2;go_ret;exact⟨zaa HG.out.symm,B0.out⟩
structure Agd (f:Cf):Prop where
 jmp:∀i,i<f.cd.len→(f.cd.x i).op=24∨(f.cd.x i).op=25→(i:Int)<(f.cd.x i).a
 han:∀i,i<f.hd.len→(f.hd.x i).tw_≤(f.hd.x i).at_
 few:f.cd.len≤2000
theorem zl6 (f:Cf)(w:World)(hf:f.At w)(hA:Agd f):Calls Tryz.prog 37 #[.agg f.vs.toArray] w fun e w'=>e=.returned (.bool true)∧Below w.heap.size w w':=by
 have H2:=hyd (Fx.new w f hf);have hbd:=hf.cd.bound;have hbd2:=hf.hd.bound;have HNC:=hyd hf.cd.nil;have HNH:=hyd hf.hd.nil;have HA:=hyd hA;have hfew:(f.cd.len:Int)≤2000:=by have:=hA.few;omega
 clear hf hA;generalize hw:w.alloc (.cells f.vs.toArray 44)=u2 at *;go_enter Tryz.func37,Tryz.ntmps37
 go_upto_region 1 with fail
 clear hw;have c14:=H2.out.b.cell 14 rfl;have n1:¬(2000:Int)<f.cd.len:=by omega
 go_upto_region 3 with fail
 go_upto_block 0 with fail
 clear n1;go_cut [15] (fun _ wx=>Hid (Fx w f w.heap.size wx))
 case first =>
  go_wp2_with fail
  go_loopw [15] (fun i wr=>∃(j:Nat),j≤f.cd.len∧i=.int .i64 j∧Fx w f w.heap.size wr) (fun i _=>f.cd.len - (intOf i).toNat)
  case atStart=>exact⟨0,Nat.zero_le _,rfl,H2.out⟩
  case round =>
   clear H2 c14;obtain⟨j,hj,rfl,hB⟩:=hrel;have HB:=hyd hB;clear hB;by_cases hlt:j<f.cd.len
   ·have ij:(j:Int)<f.cd.len:=by omega
    have r0:=HB.out.f.cd.row j hlt;have HJ:=hyd (HA.out.jmp j hlt);rw[HNC.out (by omega)];generalize f.cd.x j=x at *;go_upto_region 6 with (first | (refine wpList_load_mid rfl 50 (.tmp 18) rfl f.cd.b (f.cd.o+j*7) (by kernel_rfl) x.vs _ r0 Tryz.underlying50 rfl (by kernel_rfl) ?_) | (refine zdd rfl rfl rfl 50 rfl (.tmp 17) rfl (.tmp 4) (.tmp 19) rfl zfk (zeq _) rfl (.int .i64 j) (by kernel_rfl) x.vs.toArray (by kernel_rfl) (by kernel_rfl) rfl (by kernel_rfl) (by simpa using x.vs_one) ?_))
    have B1:=zac wr (.cells x.vs.toArray 50);have HU:=hyd (show Fx w f w.heap.size (wr.alloc (.cells x.vs.toArray 50))∧Blk _ wr.heap.size x.vs 50 from ⟨HB.out.kept B1,Blk.new wr _ _⟩);clear r0 HB B1;generalize wr.alloc (.cells x.vs.toArray 50)=U at *;generalize wr.heap.size=BX at *;have d0:=HU.out.2.cell 0 rfl;have d1:=HU.out.2.cell 1 rfl;generalize x.op=op at *;generalize x.a=xa at *;by_cases k1:op=24
    ·have k2:(j:Int)<xa:=HJ.out (Or.inl k1);have k3:¬xa≤(j:Int):=by omega
     have k4:(0:Int)≤xa:=by omega
     subst k1;clear k2;go_wp2;go_roundw
     case rel=>exact⟨j+1,by omega,by go_num,HU.out.1⟩
     case measure=>simp[intOf];omega
    ·by_cases k5:op=25
     ·have k2:(j:Int)<xa:=HJ.out (Or.inr k5);have k3:¬xa≤(j:Int):=by omega
      have k4:(0:Int)≤xa:=by omega
      subst k5;clear k2 k1;go_wp2;go_roundw
      case rel=>exact⟨j+1,by omega,by go_num,HU.out.1⟩
      case measure=>simp[intOf];omega
     ·have e1:(op==24)=false:=by simpa using k1
      have e2:(op==25)=false:=by simpa using k5
      clear k1 k5;go_wp2;go_roundw
      case rel=>exact⟨j+1,by omega,by go_num,HU.out.1⟩
      case measure=>simp[intOf];omega
   ·have ij:¬(j:Int)<f.cd.len:=by omega
    go_wp2;go_meet
    case rel=>exact HB.out
 case rest =>
 have H3:=hyd hcut.out;clear hcut H2 c14;have c15:=H3.out.b.cell 15 rfl;go_wp2;clear c15;go_loopw [44] (fun i wr=>∃(j:Nat),j≤f.hd.len∧i=.int .i64 j∧Fx w f w.heap.size wr) (fun i _=>f.hd.len - (intOf i).toNat)
 case atStart=>exact⟨0,Nat.zero_le _,rfl,H3.out⟩
 case round =>
  clear H3;obtain⟨j,hj,rfl,hB⟩:=hrel;have HB:=hyd hB;clear hB;by_cases hlt:j<f.hd.len
  ·have ij:(j:Int)<f.hd.len:=by omega
   have r0:=HB.out.f.hd.row j hlt;have HJ:=hyd (HA.out.han j hlt);rw[HNH.out (by omega)];generalize f.hd.x j=x at *;go_upto_region 13 with (first | (refine wpList_load_mid rfl 123 (.tmp 46) rfl f.hd.b (f.hd.o+j*3) (by kernel_rfl) x.vs _ r0 Tryz.underlying123 rfl (by kernel_rfl) ?_) | (refine zao rfl rfl 123 rfl (.tmp 7) (.tmp 47) rfl z_hn (ze8 _) rfl x.vs.toArray (by kernel_rfl) (by kernel_rfl) rfl (by kernel_rfl) (by simpa using x.vs_one) ?_))
   have B1:=zac wr (.cells x.vs.toArray 123);have HU:=hyd (show Fx w f w.heap.size (wr.alloc (.cells x.vs.toArray 123))∧Blk _ wr.heap.size x.vs 123 from ⟨HB.out.kept B1,Blk.new wr _ _⟩);clear r0 HB B1;generalize wr.alloc (.cells x.vs.toArray 123)=U at *;generalize wr.heap.size=BX at *;have d2:=HU.out.2.cell 2 rfl;have rF:=HU.out.1.b.range;have h0:=ze0 f x.at_ U;generalize f.pl x.at_=pb at *;go_wp2_with (refine wpList_load_mid rfl 44 (.tmp 1) rfl w.heap.size 0 (by kernel_rfl) f.vs _ rF Tryz.underlying44 rfl (by kernel_rfl) ?_)
   refine h0.mono ?_;rintro _ u4 ⟨rfl,hb⟩;have H4:=hyd (show Fx w f w.heap.size u4∧Blk u4 BX x.vs 123 from ⟨HU.out.1.kept hb,HU.out.2.kept hb⟩);clear h0 hb HU rF d2;cases pb
   ·go_wp2;go_roundw
    case rel=>exact⟨j+1,by omega,by go_num,H4.out.1⟩
    case measure=>simp[intOf];omega
   ·have d0:=H4.out.2.cell 0 rfl;have d1:=H4.out.2.cell 1 rfl;have d2:=H4.out.2.cell 2 rfl;have c14:=H4.out.1.b.cell 14 rfl;have k1:¬max x.fr x.at_<min x.tw_ f.cd.len:=by have:=HJ.out;omega
    go_wp2;go_roundw
    case rel=>exact⟨j+1,by omega,by go_num,H4.out.1⟩
    case measure=>simp[intOf];omega
  ·have ij:¬(j:Int)<f.hd.len:=by omega
   go_wp2;go_ret;exact⟨rfl,HB.out.bl⟩
theorem zj4 (w:World)(base:Nat)(v:Value)(l:List Int)(x:Int)(h:Oi w base v l)(hs:l.Pairwise (·<·))(hl:l.length≤1000000):Calls Tryz.prog 82 #[v,.int .i64 x] w fun e w'=>∃b:Bool,e=.returned (.tuple #[.int .i64 ((l.countP fun a=>decide (a<x):Nat):Int),.bool b])∧Below w.heap.size w w':=by
 have h':=h;obtain⟨_,⟨rfl,h0⟩ | ⟨g,cap,cur,rfl,hb,hg,hn,hc,hss,ht⟩⟩:=h
 ·have e:l=[]:=List.eq_nil_of_length_eq_zero h0;subst e;refine (Tryz.slices_BinarySearch_int_empty none 0 x w).mono ?_;rintro e w' ⟨rfl,rfl⟩;exact⟨false,rfl,Below.refl _ _⟩
 ·have h0:=Tryz.slices_BinarySearch_int g 0 l.length cap l x w (Nat.le_refl _) (by omega) (fun j hj=>by
   have:=World.ownsRow.cells h' (g:=g) rfl j (.int .i64 (l.getD j 0)) (by simp[ivL,hj]);rw[adp] at this
   simpa using this) (by rw[List.take_length];exact hs.imp (fun h=>Int.le_of_lt h))
  rw[List.take_length] at h0;refine h0.mono ?_;rintro e w' ⟨rfl,q,rfl⟩;exact⟨_,rfl,zbf (Below.refl _ _) q⟩
theorem zr6 (w:World)(base:Nat)(v:Value)(l:List Int)(i j:Nat)(h:Oi w base v l)(hij:i<j)(hj:j≤l.length)(hl:l.length≤1000000):Calls Tryz.prog 83 #[v,.int .i64 i,.int .i64 j] w fun e w'=>∃v',e=.returned v'∧Oi w' base v' (l.take i++l.drop j)∧w.grownBy w' v.ownBlock:=by
 have h':=h;obtain⟨_,⟨rfl,h0⟩ | ⟨g,cap,cur,rfl,hb,hg,hn,hc,hs,ht⟩⟩:=h
 ·omega
 ·have hH:=holds_of_blockI (ss:=l) hg (by rw[Nat.mul_one] at ht;exact ht)
  refine (Tryz.slices_Delete_int g 0 cap i j l w hH hn (by unfold maxLen at hc;omega) (by omega) hj).mono ?_
  rintro e w' ⟨rfl,q,rfl⟩;have hk:(l.take i++l.drop j).length=l.length - (j - i):=by simp;omega
  refine⟨_,rfl,?_,?_⟩
  ·have:=Lib.ownsRow_putRow (enc:=Value.int .i64) (q:=q) (k:=l.length - (j - i)) (ys:=l.take i++l.drop j++List.replicate (j - i) 0) (zs:=l) (cap:=cap) (g:=g) (w:=w) (base:=base) (e:=3) (n:=l.length) h' (by rw[List.length_append,hk,List.length_replicate];omega) (by omega)
   rw[List.take_left' hk] at this;unfold Oi;rw[hk];exact this
  ·have:=grownBy_sortedI (w:=w) (g:=g) (n:=q) (os:=#[]) (l.take i++l.drop j++List.replicate (j - i) 0).toArray;rw[Sort.grow_empty] at this;exact this
theorem zof (f:Cf)(g:Rw Bool)(w:World)(hf:f.At w)(hg:BlAt w g)(hn:f.cd.len≤100000):Calls Tryz.prog 81 #[.agg f.vs.toArray,.slice g.ao g.len g.cap] w fun e w'=>∃v,e=.returned v∧Oi w' w.heap.size v (trM (f.rs g) f.cd.len)∧Below w.heap.size w w':=by
 have H1:Hid (Wv w f (.slice none 0 0) [] (w.alloc (.cells f.vs.toArray 44))):=⟨Fb.new w f,Oi.nil _ _⟩;have HD:=hyd (show f.At w∧BlAt w g from ⟨hf,hg⟩);clear hf hg;generalize hw:w.alloc (.cells f.vs.toArray 44)=u1 at *;go_enter Tryz.func81,Tryz.ntmps81
 go_upto_region 1 with fail
 clear hw;have c14:=H1.out.x.b.cell 14 rfl;go_wp2;clear c14;go_loopw [5,10] (fun v i wr=>∃(j:Nat),j≤f.cd.len∧i=.int .i64 j∧Wv w f v (trM (f.rs g) j) wr) (fun _ i _=>f.cd.len - (intOf i).toNat)
 case atStart=>exact⟨0,Nat.zero_le _,rfl,H1.out⟩
 case round =>
  clear H1;obtain⟨j,hj,rfl,hB⟩:=hrel;have HB:=hyd hB;clear hB;by_cases hlt:j<f.cd.len
  ·have ij:(j:Int)<f.cd.len:=by omega
   have rF:=HB.out.x.b.range;have h0:=zgo f g j wr (Cf.At.kept HB.out.x.bl HD.out.1) (BlAt.kept HD.out.2 HB.out.x.bl) hlt;have HT:=hyd (zu1 (f.rs g) j);have hlen:=hyd (zkt (f.rs g) j);generalize f.rs g j=rb at *;go_wp2_with (refine wpList_load_mid rfl 44 (.tmp 2) rfl w.heap.size 0 (by kernel_rfl) f.vs _ rF Tryz.underlying44 rfl (by kernel_rfl) ?_)
   refine h0.mono ?_;rintro _ u2 ⟨rfl,hb⟩;have H2:=hyd (HB.out.kept hb);clear h0 hb HB rF;cases rb
   ·have HE:Hid (trM (f.rs g) (j+1)=trM (f.rs g) j):=by show _=_;rw[HT.out];simp
    clear HT;go_wp2;go_roundw
    case rel=>exact⟨j+1,by omega,by go_num,by rw[HE.out];exact H2.out⟩
    case measure=>simp[intOf];omega
   ·have HE:Hid (trM (f.rs g) (j+1)=trM (f.rs g) j++[(j:Int)]):=by show _=_;rw[HT.out];simp
    clear HT;go_wp2_with (at_builtin;refine zej rfl _ _ rfl (w.heap.size+1) u5 (trM (f.rs g) j) (j:Int) rfl H2.out.o rfl (by have:=hlen.out;omega) H2.out.size ?_;intro v6 w6 h6 g6;have H3:=hyd (H2.out.tw_ h6 g6);clear h6 g6 H2);go_roundw
    case rel=>exact⟨j+1,by omega,by go_num,by rw[HE.out];exact H3.out⟩
    case measure=>simp[intOf];omega
  ·have ij:¬(j:Int)<f.cd.len:=by omega
   have HE:Hid (trM (f.rs g) j=trM (f.rs g) f.cd.len):=by show _=_;rw[show j=f.cd.len by omega]
   go_wp2;go_ret;exact⟨_,rfl,by rw[←HE.out];exact zga HB.out.o (by omega),HB.out.x.bl⟩
theorem zaz {T:TypeId}{d:TypeDesc}{fn:Func}{tmps:Array Value}{k B:Nat}{vs:List Value}{w:World}(hu:Tryz.prog.underlying T=some d)(hd:d.isRow=true)(hi:(Tryz.prog.info? T).map (·.size)=some vs.length)(hf:fn.results=#[.cell k T])(ht:tmps.getD k undef=.pointer (some ⟨B,0,none⟩))(h:w.rangeAt B 0 vs):(results fn tmps).run Tryz.prog w=.ok (.agg vs.toArray) w:=by
 have h:(loadVar T ⟨B,0,none⟩).run Tryz.prog w=.ok (.agg vs.toArray) w:=run_loadAt_mid w B 0 T vs d h hu hd hi;have ha:(asAddr (tmps[k]?.getD undef)).run Tryz.prog w=.ok ⟨B,0,none⟩ w:=by rw[show tmps[k]?.getD undef=.pointer (some ⟨B,0,none⟩) by simpa using ht];rfl
 unfold results;rw[hf];simp[ha,h]
theorem zki {w:World}{base z n k:Nat}{e:TypeId}{v:Value}{xs:List Value}(h:w.ownsRow base e z v n xs)(hk:v.ownBlock=some k):∃cur fr,w.heap[k]?=some (.cells cur e fr):=by
 obtain⟨_,⟨rfl,_⟩ | ⟨g,cap,cur,rfl,hg,hh,_⟩⟩:=h
 ·cases hk
 ·have:g=k:=by simpa [Value.ownBlock] using hk
  subst this;exact⟨_,_,hh⟩
theorem zbk {w:World}{base z n B:Nat}{e t:TypeId}{v:Value}{xs c:List Value}(h:w.ownsRow base e z v n xs)(hb:Blk w B c t)(hne:e≠t):some B≠v.ownBlock:=fun hk=>by
 obtain⟨cur,fr,h1⟩:=zki h hk.symm;unfold Blk at hb;rw[hb] at h1
 injection h1 with h1
 injection h1 with _ h2 _
 exact hne h2.symm
theorem zjm {w:World}{base z n base' z' n' k:Nat}{e t:TypeId}{v v':Value}{xs xs':List Value}(h:w.ownsRow base e z v n xs)(h':w.ownsRow base' t z' v' n' xs')(hne:e≠t)(hk:v.ownBlock=some k):v'.ownBlock≠some k:=fun hk'=>by
 obtain⟨cur,fr,h1⟩:=zki h hk;obtain⟨cur',fr',h2⟩:=zki h' hk';rw[h1] at h2
 injection h2 with h2
 injection h2 with _ h2 _
 exact hne h2
theorem zfz {w w':World}{base z n:Nat}{e:TypeId}{v:Value}{xs:List Value}{r:Option Nat}(h:w.ownsRow base e z v n xs)(hg:w.grownBy w' r)(hr:∀k,v.ownBlock=some k→some k≠r):w'.ownsRow base e z v n xs:=by
 have hl:=fun k hk=>(owb h (k:=k) hk).2;obtain⟨h0,h⟩:=h;refine⟨h0,?_⟩;rcases h with ⟨rfl,hn⟩ | ⟨g,cap,cur,rfl,hb,hh,hx⟩
 ·exact Or.inl ⟨rfl,hn⟩
 ·exact Or.inr ⟨g,cap,cur,rfl,hb,(hg.block g (hl g rfl) (hr g rfl)).trans hh,hx⟩
theorem zrn {w:World}{base b' z n:Nat}{e:TypeId}{v:Value}{xs:List Value}(h:w.ownsRow base e z v n xs)(hb:b'≤base):w.ownsRow b' e z v n xs:=by
 obtain⟨h0,h1 | ⟨g,cap,cur,h1,h2,h3⟩⟩:=h
 ·exact⟨h0,Or.inl h1⟩
 ·exact⟨h0,Or.inr ⟨g,cap,cur,h1,by omega,h3⟩⟩
theorem Tryz.infoHn:(Tryz.prog.info? 123).map (fun i=>(i.zero,i.size,i.bytes))=some (some (.agg #[.int .i64 0,.int .i64 0,.int .i64 0]),3,24):=by kernel_rfl
theorem zon {w:World}{ops:Array Oper}{rest:List Oper}{o:Oper}{a:Act}{Q:Exit→Act→World→Prop}(hgd:o.guard=none)(s x:Operand)
  (hop:o.op=.call { callee:=.builtin .append,args:=#[s,x],argTypes:=#[40,40] }) (base:Nat) (v:Value) (m:Nat) (F:Nat→Hn) (h0:Hn) (hs:a.eval s=v) (ho:w.ownsRow base 123 3 v m (zau (fun i=>(F i).vs) m)) (hx:a.eval x=.slice (some ⟨w.heap.size,0,none⟩) 1 1) (hl:m≤1000000) (hb:base≤w.heap.size)
  (h:∀v' w',w'.ownsRow base 123 3 v' (m+1) (zau (fun i=>(updH F m h0 i).vs) (m+1))→w.grownBy w' v.ownBlock→wpList Tryz.prog ops Q rest (a.put o.dst v') w'):wpList Tryz.prog ops Q (o :: rest) a (w.alloc (.cells h0.vs.toArray 123)):=by
 have hE:(w.alloc (.cells h0.vs.toArray 123)).ownsRow base 123 3 v m (zau (fun i=>(F i).vs) m):=ho.alloc _;refine zcl Tryz.underlying40 Tryz.infoHn rfl (by decide) hgd s x hop base v m (zau (fun i=>(F i).vs) m) hs hE (some ⟨w.heap.size,0,none⟩) 1 1 h0.vs hx (fun h=>by cases h) rfl (zoq (cs:=h0.vs)) (fun u hu=>List.all_eq_true.1 h0.vs_one u hu) (by unfold maxLen;omega) (by omega) (by rw[alloc_size];omega) ?_
 intro v' w' h1 h2;refine h v' w' ?_ ?_
 ·have e:zau (fun i=>(updH F m h0 i).vs) (m+1)=zau (fun i=>(F i).vs) m++h0.vs:=by
   show zau (fun i=>(updH F m h0 i).vs) m++(updH F m h0 m).vs=_
   have e1:updH F m h0 m=h0:=by unfold updH;rw[if_neg (by omega)]
   rw[e1]
   congr 1
   have key:∀k,k≤m→zau (fun i=>(updH F m h0 i).vs) k=zau (fun i=>(F i).vs) k:=fun k=>by
    induction k with
    | zero=>intro _;rfl
    | succ k ih =>
     intro hk;show zau _ k++(updH F m h0 k).vs=zau _ k++(F k).vs
     have e2:updH F m h0 k=F k:=by unfold updH;rw[if_pos (by omega)]
     rw[ih (by omega),e2]
   exact key m (Nat.le_refl _)
  rw[e];exact h1
 ·have g0:=World.grownBy_alloc w (.cells h0.vs.toArray 123) v.ownBlock;refine⟨h2.os.trans g0.os,h2.tape.trans g0.tape,h2.output.trans g0.output,Nat.le_trans g0.size h2.size,fun k hk hne=>?_⟩;rw[h2.block k (by rw[alloc_size];omega) hne]
  exact g0.block k hk hne
def mdC (f:Cf)(r:Rw Hn):Cf:=⟨zab 0 0,zab 0 0,zab 0 0,0,0,0,f.cd,r,zgf ⟨.dm,.dm,0⟩,zgf ⟨0,0,zgf 0⟩⟩
def mdV (f:Cf)(v:Value):List Value:=[.int .i64 0,.int .i64 0,.slice none 0 0,.int .i64 0,.int .i64 0,.int .i64 0,.int .i64 0,.slice none 0 0,.int .i64 0,.int .i64 0,.slice none 0 0,.int .i64 0,.int .i64 0,.int .i64 0,.slice f.cd.ao f.cd.len f.cd.cap,v,.slice none 0 0,.slice none 0 0]
theorem zq3 (f:Cf)(r:Rw Hn):(mdC f r).vs=mdV f (.slice r.ao r.len r.cap):=rfl
theorem mdC_at {f:Cf}{r:Rw Hn}{w:World}(hf:f.At w)(hr:HnsAt w r):(mdC f r).At w:=by
 have z:I64 0:=⟨by omega,by omega⟩;exact⟨za3 _ _ _,za3 _ _ _,za3 _ _ _,z,z,z,hf.cd,hr,zf9 _ _ _ _ _,zf9 _ _ _ _ _⟩
structure Lw (w0:World)(f:Cf)(g:Rw Bool)(B i m:Nat)(F:Nat→Hn)(vo vh:Value)(u:World):Prop where
 bl:Below w0.heap.size w0 u
 bF:Blk u w0.heap.size f.vs 44
 b4:Blk u (w0.heap.size+1) z_fn 44
 b6:Blk u B (mdV f vh) 44
 oi:Oi u (w0.heap.size+2) vo (trM (f.opn g i) f.cd.len)
 hs:u.ownsRow (w0.heap.size+2) 123 3 vh m (zau (fun i=>(F i).vs) m)
 ne:w0.heap.size+1<B
 ln:LnI f g i m F∧m≤i∧∀k,k<m→(F k).At
theorem Lw.kept {w0:World}{f:Cf}{g:Rw Bool}{B i m:Nat}{F:Nat→Hn}{vo vh:Value}{u u':World}(h:Lw w0 f g B i m F vo vh u)(hb:Below u.heap.size u u'):Lw w0 f g B i m F vo vh u' :=
 ⟨Below.next h.bl hb,h.bF.kept hb,h.b4.kept hb,h.b6.kept hb,h.oi.kept hb,owk h.hs hb,h.ne,h.ln⟩
theorem Lw.size {w0:World}{f:Cf}{g:Rw Bool}{B i m:Nat}{F:Nat→Hn}{vo vh:Value}{u:World}(h:Lw w0 f g B i m F vo vh u):w0.heap.size+2≤u.heap.size:=by have:=h.b4.lt;omega
theorem Lw.app {w0:World}{f:Cf}{g:Rw Bool}{B i m:Nat}{F F':Nat→Hn}{vo vh vh':Value}{u u1 u2:World}(h:Lw w0 f g B i m F vo vh u)(hk:u1.ownsRow (w0.heap.size+2) 123 3 vh' (m+1) (zau (fun i=>(F' i).vs) (m+1)))(hg:u.grownBy u1 vh.ownBlock)(W:WroteB u1 u2 B (mdV f vh') 44) :
  (Below w0.heap.size w0 u2∧Blk u2 w0.heap.size f.vs 44∧Blk u2 (w0.heap.size+1) z_fn 44∧Blk u2 B (mdV f vh') 44)∧Oi u2 (w0.heap.size+2) vo (trM (f.opn g i) f.cd.len)∧u2.ownsRow (w0.heap.size+2) 123 3 vh' (m+1) (zau (fun i=>(F' i).vs) (m+1)):=by
 have t1:(123:TypeId)≠44:=by decide
 have t2:(3:TypeId)≠123:=by decide
 have t3:(3:TypeId)≠44:=by decide
 have hl:∀k,vh.ownBlock=some k→w0.heap.size≤k:=fun k e=>by have:=(owb h.hs e).1;omega
 have o1:u1.ownsRow (w0.heap.size+2) 3 1 vo (trM (f.opn g i) f.cd.len).length (ivL (trM (f.opn g i) f.cd.len)):=zfz h.oi hg (fun k e e2=>zjm h.oi h.hs t2 e e2.symm);have bB:Blk u1 B (mdV f vh) 44:=h.b6.gb hg (zbk h.hs h.b6 t1);refine⟨⟨zb4 (zb4 h.bl hg hl) W.gb (fun k e=>by have:=Option.some.inj e;have:=h.ne;omega),?_,?_,W.blk⟩,?_,?_⟩
 ·exact (h.bF.gb hg (zbk h.hs h.bF t1)).gb W.gb (fun e=>by have:=Option.some.inj e;have:=h.ne;omega)
 ·exact (h.b4.gb hg (zbk h.hs h.b4 t1)).gb W.gb (fun e=>by have:=Option.some.inj e;have:=h.ne;omega)
 ·exact zfz o1 W.gb (fun k e e2=>zbk o1 bB t3 (by rw[e,e2]))
 ·have o2:Blk u1 B (mdV f vh) 44:=bB;exact zfz hk W.gb (fun k e e2=>zbk hk o2 t1 (by rw[e,e2]))
theorem Lw.cut {w0:World}{f:Cf}{g:Rw Bool}{B i' m:Nat}{F:Nat→Hn}{vo vo' vh:Value}{l l':List Int}{u u1:World}(h1:(Below w0.heap.size w0 u∧Blk u w0.heap.size f.vs 44∧Blk u (w0.heap.size+1) z_fn 44∧Blk u B (mdV f vh) 44)∧Oi u (w0.heap.size+2) vo l∧u.ownsRow (w0.heap.size+2) 123 3 vh m (zau (fun i=>(F i).vs) m))
  (ho:Oi u1 (w0.heap.size+2) vo' l') (hg:u.grownBy u1 vo.ownBlock) (hl:l'=trM (f.opn g i') f.cd.len) (hB:w0.heap.size+1<B) (hln:LnI f g i' m F∧m≤i'∧∀k,k<m→(F k).At):Lw w0 f g B i' m F vo' vh u1:=by
 have t2:(123:TypeId)≠3:=by decide
 have t3:(3:TypeId)≠44:=by decide
 obtain⟨⟨a1,a2,a3,a4⟩,a5,a6⟩:=h1;subst hl;exact⟨zb4 a1 hg (fun k e=>by have:=(owb a5 e).1;omega),a2.gb hg (zbk a5 a2 t3),a3.gb hg (zbk a5 a3 t3),a4.gb hg (zbk a5 a4 t3),ho,zfz a6 hg (fun k e e2=>zjm a6 a5 t2 e e2.symm),hB,hln⟩
theorem Lw.skip {w0:World}{f:Cf}{g:Rw Bool}{B i m:Nat}{F:Nat→Hn}{vo vh:Value}{u:World}(h:Lw w0 f g B i m F vo vh u)(hs:(∀p:Nat,p<f.cd.len→f.opn g i p=true→hitH (f.hd.x i) p=false)∧trM (f.opn g (i+1)) f.cd.len=trM (f.opn g i) f.cd.len):Lw w0 f g B (i+1) m F vo vh u :=
 ⟨h.bl,h.bF,h.b4,h.b6,by rw[hs.2];exact h.oi,h.hs,h.ne,h.ln.1.skip hs.1,by have:=h.ln.2.1;omega,h.ln.2.2⟩
theorem upd_at {F:Nat→Hn}{m:Nat}{h:Hn}(hF:∀k,k<m→(F k).At)(hh:h.At):∀k,k<m+1→(updH F m h k).At:=fun k _=>by
 unfold updH;split
 ·exact hF k (by assumption)
 ·exact hh
structure LnO (f:Cf)(g:Rw Bool)(base:Nat)(l:Cf)(u:World):Prop where
 lat:l.At u
 ln:Ln f g l
 own:u.ownsRow base 123 3 (.slice l.hd.ao l.hd.len l.hd.cap) l.hd.len (zau (fun i=>(l.hd.x i).vs) l.hd.len)
 eq:l=mdC f l.hd
 each:∀k,k<l.hd.len→(l.hd.x k).At
theorem zq8 {f:Cf}{g:Rw Bool}{base m:Nat}{F:Nat→Hn}{v:Value}{u:World}(hf:f.At u)(ho:u.ownsRow base 123 3 v m (zau (fun i=>(F i).vs) m))(hm:m≤9223372036854775807)(hF:∀k,k<m→(F k).At)(hl:∀l:Cf,l.cd=f.cd→l.hd.len=m→l.hd.x=F→Ln f g l):∃l:Cf,l.vs=mdV f v∧LnO f g base l u∧l.hd.len=m∧l.hd.x=F:=by
 obtain⟨r,h1,h2,h3,h4⟩:=Rw.of_own (vs:=Hn.vs) (z:=3) (A:=fun _ h=>Hn.At h) (fun _=>rfl) ho hm hF;refine⟨mdC f r,by rw[zq3,h1],⟨mdC_at hf h2,hl _ rfl h3 h4,?_,rfl,?_⟩,h3,h4⟩
 ·show u.ownsRow base 123 3 (.slice r.ao r.len r.cap) r.len (zau (fun i=>(r.x i).vs) r.len)
  rw[←h1,h3,h4];exact ho
 ·intro k hk;show (r.x k).At
  rw[h4];exact hF k (by rw[←h3];exact hk)
theorem LnO.gb {f:Cf}{g:Rw Bool}{base B:Nat}{l:Cf}{u u':World}{c:List Value}(h:LnO f g base l u)(hg:u.grownBy u' (some B))(hB:Blk u B c 44)(hf:f.At u'):∃l':Cf,l'.vs=l.vs∧LnO f g base l' u':=by
 have ho:=zfz h.own hg (fun k e e2=>zbk h.own hB (by decide) (by rw[e,e2]));obtain⟨l',h1,h2,_,_⟩:=zq8 (g:=g) hf ho h.lat.hd.bound h.each (fun l' e1 e2 e3=>⟨e1,fun p hp hr=>by rw[han_fnd,e2,e3,←han_fnd];exact h.ln.han p hp hr⟩)
 exact⟨l',by rw[h1,←zq3,←h.eq],h2⟩
def LnP (f:Cf)(g:Rw Bool)(w:World):Ending→World→Prop:=fun e w'=>∃l:Cf,e=.returned (.agg l.vs.toArray)∧LnO f g w.heap.size l w'∧Below w.heap.size w w'
theorem ztn (f:Cf)(g:Rw Bool)(w:World)(hf:f.At w)(hg:BlAt w g)(hn:f.cd.len≤100000)(hh:f.hd.len≤100000):Calls Tryz.prog 39 #[.agg f.vs.toArray,.slice g.ao g.len g.cap] w (LnP f g w):=by
 have A0:=zbc [.cells f.vs.toArray 44,.cells z_fn.toArray 44] w;have A1:=zbe [.cells f.vs.toArray 44,.cells z_fn.toArray 44] w;simp only[List.foldl] at A0 A1;unfold z_fn at A0 A1;have H1:=hyd (show Below w.heap.size w _∧Blk _ w.heap.size f.vs 44∧Blk _ (w.heap.size+1) z_fn 44 from ⟨A0,A1 0 (by simp),A1 1 (by simp)⟩);have HD:=hyd (show f.At w∧BlAt w g∧f.hd.len≤100000 from ⟨hf,hg,hh⟩);have hbd2:=hf.hd.bound;have HNH:=hyd hf.hd.nil;clear A0 A1 hf hg hh;go_enter Tryz.func39,Tryz.ntmps39
 go_upto_region 1 with fail
 generalize (w.alloc (.cells f.vs.toArray 44)).alloc (.cells [.int .i64 0,.int .i64 0,.slice none 0 0,.int .i64 0,.int .i64 0,.int .i64 0,.int .i64 0,.slice none 0 0,.int .i64 0,.int .i64 0,.slice none 0 0,.int .i64 0,.int .i64 0,.int .i64 0,.slice none 0 0,.slice none 0 0,.slice none 0 0,.slice none 0 0].toArray 44)=u1 at *;have rF:=H1.out.2.1.range;have h0:=zof f g u1 (Cf.At.kept H1.out.1 HD.out.1) (BlAt.kept HD.out.2.1 H1.out.1) hn;go_wp2_with (refine wpList_load_mid rfl 44 (.tmp 2) rfl w.heap.size 0 (by kernel_rfl) f.vs _ rF Tryz.underlying44 rfl (by kernel_rfl) ?_)
 refine h0.mono ?_;rintro _ u2 ⟨vo,rfl,hO,hb⟩;have H2:=hyd (show Below w.heap.size w u2∧Blk u2 w.heap.size f.vs 44∧Blk u2 (w.heap.size+1) z_fn 44∧Oi u2 (w.heap.size+2) vo (trM (f.opn g 0) f.cd.len) from ⟨Below.next H1.out.1 hb,H1.out.2.1.kept hb,H1.out.2.2.kept hb,by rw[zuu];exact zga hO (by have:=H1.out.2.2.lt;omega)⟩)
 clear h0 hO hb rF H1;go_upto_region 2 with fail
 have c14:=H2.out.2.1.cell 14 rfl;go_upto_region 3 with (first | (refine zao rfl rfl 44 rfl (.tmp 6) (.tmp 18) rfl z_fn (alloc_fn _) rfl (mdV f (.slice none 0 0)).toArray (by kernel_rfl) (by kernel_rfl) rfl (by kernel_rfl) (by simp[mdV,Value.oneCell']) ?_))
 have B3:=zac u2 (.cells (mdV f (.slice none 0 0)).toArray 44);have H3:Hid (Lw w f g u2.heap.size 0 0 (fun _=>⟨0,0,0⟩) vo (.slice none 0 0) (u2.alloc (.cells (mdV f (.slice none 0 0)).toArray 44))) :=
  ⟨Below.next H2.out.1 B3,H2.out.2.1.kept B3,H2.out.2.2.1.kept B3,Blk.new u2 _ _,H2.out.2.2.2.kept B3,World.ownsRow_nil _ _ _ _,H2.out.2.2.1.lt,LnI.start f g _,Nat.le_refl _,fun k hk=>absurd hk (Nat.not_lt_zero _)⟩
 clear B3 H2 c14;generalize u2.alloc (.cells (mdV f (.slice none 0 0)).toArray 44)=u3 at *;generalize u2.heap.size=B6 at *;have c15:=H3.out.bF.cell 15 rfl;go_wp2;clear c15;go_loopw [5,22] (fun v i wr=>∃(j m:Nat) (F:Nat→Hn) (vh:Value),j≤f.hd.len∧i=.int .i64 j∧Lw w f g B6 j m F v vh wr) (fun _ i _=>f.hd.len - (intOf i).toNat)
 case atStart=>exact⟨0,0,_,_,Nat.zero_le _,rfl,H3.out⟩
 case round =>
  clear H3;obtain⟨j,m,F,vh,hj,rfl,hB⟩:=hrel;have HB:=hyd hB;clear hB;by_cases hlt:j<f.hd.len
  ·as_aux_lemma =>
   have ij:(j:Int)<f.hd.len:=by omega
   have r0:=(Cf.At.kept HB.out.bl HD.out.1).hd.row j hlt;rw[HNH.out (by omega)];have HC1:=hyd (fun h=>zws (f:=f) (g:=g) (i:=j) h);have HC2:=hyd (fun h=>ztw (f:=f) (g:=g) (i:=j) h);have HKE:=hyd (HB.out.ln.1.keep);have HXA:=hyd (HD.out.1.hd.each j hlt);have HSK:Hid (((∀p:Nat,p<f.cd.len→f.opn g j p=true→hitH (f.hd.x j) p=false)∧trM (f.opn g (j+1)) f.cd.len=trM (f.opn g j) f.cd.len)→∀u,Lw w f g B6 j m F u5 vh u→Lw w f g B6 (j+1) m F u5 vh u):=fun h u hu=>hu.skip h;generalize f.hd.x j=x at *;go_upto_region 6 with (first | (refine wpList_load_mid rfl 123 (.tmp 24) rfl f.hd.b (f.hd.o+j*3) (by kernel_rfl) x.vs _ r0 Tryz.underlying123 rfl (by kernel_rfl) ?_) | (refine zao rfl rfl 123 rfl (.tmp 8) (.tmp 25) rfl z_hn (ze8 _) rfl x.vs.toArray (by kernel_rfl) (by kernel_rfl) rfl (by kernel_rfl) (by simpa using x.vs_one) ?_))
   have B1:=zac wr (.cells x.vs.toArray 123);have HU:=hyd (show Lw w f g B6 j m F u5 vh (wr.alloc (.cells x.vs.toArray 123))∧Blk _ wr.heap.size x.vs 123∧w.heap.size+2≤wr.heap.size from ⟨HB.out.kept B1,Blk.new wr _ _,HB.out.size⟩);clear r0 HB B1;generalize wr.alloc (.cells x.vs.toArray 123)=U at *;generalize wr.heap.size=BX at *;have d0:=HU.out.2.1.cell 0 rfl;have h0:=zj4 U (w.heap.size+2) u5 (trM (f.opn g j) f.cd.len) x.fr HU.out.1.oi (zdy _ _) (by have:=zkt (f.opn g j) f.cd.len;omega)
   have hlen:=zkt (f.opn g j) f.cd.len;have hcl:=List.countP_le_length (p:=fun a:Int=>decide (a<x.tw_)) (l:=trM (f.opn g j) f.cd.len);have HC3:Hid (∀u,Lw w f g B6 j m F u5 vh u→Calls Tryz.prog 82 #[u5,.int .i64 x.tw_] u fun e w'=>∃b:Bool,e=.returned (.tuple #[.int .i64 (((trM (f.opn g j) f.cd.len).countP fun a=>decide (a<x.tw_):Nat):Int),.bool b])∧Below u.heap.size u w'):=fun u hu=>zj4 u (w.heap.size+2) u5 _ x.tw_ hu.oi (zdy _ _) (by omega);generalize ((trM (f.opn g j) f.cd.len).countP fun a=>decide (a<x.fr))=c1 at *;generalize ((trM (f.opn g j) f.cd.len).countP fun a=>decide (a<x.tw_))=c2 at *;have HCL:=hyd (show c2≤(trM (f.opn g j) f.cd.len).length∧(trM (f.opn g j) f.cd.len).length≤f.cd.len from ⟨hcl,hlen⟩);clear hcl hlen;go_wp2_with fail
   refine h0.mono ?_;rintro _ u4 ⟨b4,rfl,hb⟩;have H4:=hyd (show Lw w f g B6 j m F u5 vh u4∧Blk u4 BX x.vs 123∧w.heap.size+2≤BX from ⟨HU.out.1.kept hb,HU.out.2.1.kept hb,HU.out.2.2⟩);clear h0 hb HU d0;have d1:=H4.out.2.1.cell 1 rfl;have h0:=HC3.out u4 H4.out.1;clear HC3;go_wp2_with fail
   refine h0.mono ?_;rintro _ u6 ⟨b6,rfl,hb⟩;have H6:=hyd (show Lw w f g B6 j m F u5 vh u6∧Blk u6 BX x.vs 123∧w.heap.size+2≤BX from ⟨H4.out.1.kept hb,H4.out.2.1.kept hb,H4.out.2.2⟩);clear h0 hb H4 d1;by_cases hc:c1<c2
   ·have ic:(c1:Int)<c2:=by omega
    have HE:=hyd (HC1.out hc);have HCC:=hyd hc;clear HC1 HC2 hc HSK;have c15:=H6.out.1.b6.cell 15 rfl;have rX:=H6.out.2.1.range;go_upto_region 10 with (first
     | (refine wpList_load_mid rfl 123 (.tmp 8) rfl BX 0 (by kernel_rfl) [.int .i64 x.fr,.int .i64 x.tw_,.int .i64 x.at_] _ rX Tryz.underlying123 rfl (by kernel_rfl) ?_)
     | (at_builtin;refine zon rfl _ _ rfl (w.heap.size+2) vh m F x rfl H6.out.1.hs rfl (by have:=H6.out.1.ln.2.1;have:=HD.out.2.2;omega) H6.out.1.size ?_;intro v7 w7 h7 g7;obtain⟨ao7,cap7,rfl⟩:=zf5 h7;have H7:=hyd (show w7.ownsRow (w.heap.size+2) 123 3 (.slice ao7 (m+1) cap7) (m+1) (zau (fun i=>(updH F m x i).vs) (m+1))∧u6.grownBy w7 vh.ownBlock∧Blk w7 B6 (mdV f vh) 44 from ⟨h7,g7,H6.out.1.b6.gb g7 (zbk H6.out.1.hs H6.out.1.b6 (by decide))⟩);clear h7 g7 rX c15)
     | (refine zbd rfl 40 (.tmp 48) (.tmp 47) rfl rfl B6 15 (.slice ao7 (m+1) cap7) _ _ (by kernel_rfl) (by kernel_rfl) (zax _ _ (by kernel_rfl) rfl rfl _ _) H7.out.2.2 (by simp[mdV]) ?_;intro w8 W8;have H8:=hyd (H6.out.1.app H7.out.1 H7.out.2.1 W8);clear W8 H7))
    have h0:=zr6 w8 (w.heap.size+2) u5 (trM (f.opn g j) f.cd.len) c1 c2 H8.out.2.1 HCC.out HCL.out.1 (by have:=HCL.out.2;omega)
    have HNL:=hyd (show w.heap.size+1<B6∧m+1≤j+1∧∀k,k<m+1→(updH F m x k).At from ⟨H6.out.1.ne,by have:=H6.out.1.ln.2.1;omega,upd_at H6.out.1.ln.2.2 HXA.out⟩)
    clear H6 HCC HCL;go_wp2_with fail
    refine h0.mono ?_;rintro _ w9 ⟨v9,rfl,hO9,g9⟩;have H9:Hid (Lw w f g B6 (j+1) (m+1) (updH F m x) v9 (.slice ao7 (m+1) cap7) w9):=Lw.cut H8.out hO9 g9 HE.out HNL.out.1 ⟨HKE.out,HNL.out.2⟩;clear h0 hO9 g9 H8 HE HKE HNL;go_wp2;go_roundw
    case rel=>exact⟨j+1,m+1,_,_,by omega,by go_num,H9.out⟩
    case measure=>simp[intOf];omega
   ·have ic:¬(c1:Int)<c2:=by omega
    have H9:=hyd (HSK.out (HC2.out hc) _ H6.out.1);clear HC1 HC2 hc HSK H6 HCL HKE;go_wp2;go_roundw
    case rel=>exact⟨j+1,m,_,_,by omega,by go_num,H9.out⟩
    case measure=>simp[intOf];omega
  ·have ij:¬(j:Int)<f.hd.len:=by omega
   have hje:j=f.hd.len:=by omega
   subst hje;obtain⟨r,rfl,hr,hrl,hrx⟩:=Rw.of_own (vs:=Hn.vs) (z:=3) (A:=fun _ h=>Hn.At h) (fun _=>rfl) HB.out.hs (by have:=HB.out.ln.2.1;omega) HB.out.ln.2.2
   have HR:=hyd (show HnsAt wr r∧r.len=m∧r.x=F from ⟨hr,hrl,hrx⟩);clear hr hrl hrx;have r6:=HB.out.b6.range;go_wp2_with (first
    | (refine wpList_load_mid rfl 44 (.tmp 6) rfl B6 0 (by kernel_rfl) (mdV f (.slice r.ao r.len r.cap)) _ r6 Tryz.underlying44 rfl (by kernel_rfl) ?_)
    | (refine zag rfl rfl 44 (.tmp 4) (.tmp 54) rfl (w.heap.size+1) (mdV f (.slice r.ao r.len r.cap)) rfl rfl rfl HB.out.b4 rfl (by kernel_rfl) ?_;intro w4 W4))
   have H4:=hyd (show Below w.heap.size w w4∧wr.grownBy w4 (some (w.heap.size+1)) from ⟨zb4 HB.out.bl W4.gb (fun k e=>by have:=Option.some.inj e;omega),W4.gb⟩)
   have hs4:=zfz HB.out.hs W4.gb (fun k e e2=>zbk HB.out.hs HB.out.b4 (by decide) (by rw[e,e2]));have rB:=W4.blk.range;obtain⟨l,hl1,hl2,_,_⟩:=zq8 (g:=g) (Cf.At.kept H4.out.1 HD.out.1) (zrn hs4 (show w.heap.size≤w.heap.size+2 by omega)) (by have:=HB.out.ln.2.1;omega) HB.out.ln.2.2 (fun l e1 e2 e3=>HB.out.ln.1.done e1 e2 e3)
   refine bodyPost_ret (v:=.agg (mdV f (.slice r.ao r.len r.cap)).toArray) (zaz (vs:=mdV f (.slice r.ao r.len r.cap)) Tryz.underlying44 rfl (by kernel_rfl) Tryz.results39 rfl rB) rfl ⟨l,by rw[hl1],hl2,H4.out.1⟩
def hldM (r:Rw Int)(k p:Nat):Bool:=decide ((p:Int) ∈ r.ls.take k)
theorem ztz (r:Rw Int)(p:Nat):hldM r r.len p=decide ((p:Int) ∈ r.ls):=by
 unfold hldM;rw[List.take_of_length_le (by rw[r.ls_len];exact Nat.le_refl _)]
theorem zhs {r:Rw Int}{k:Nat}(h:k<r.len):r.ls.take (k+1)=r.ls.take k++[r.x k]:=by
 rw[List.take_succ_eq_append_getElem (by rw[r.ls_len];exact h)]
 have:=r.ls_get k h;rw[List.getElem?_eq_getElem (by rw[r.ls_len];exact h)] at this
 rw[Option.some.inj this]
theorem zxc {r:Rw Int}{k q n:Nat}(h:k<r.len)(hq:r.x k=q):bvL (updB (hldM r k) q) n=bvL (hldM r (k+1)) n:=by
 unfold bvL;apply List.map_congr_left
 intro i _
 congr 1
 unfold updB hldM;rw[zhs h,hq];by_cases e:i=q
 ·subst e;simp
 ·rw[if_neg e];have:¬(i:Int)=q:=by omega
  simp[this]
theorem hld_no {r:Rw Int}{k n:Nat}(h:k<r.len)(hq:¬(0≤r.x k∧r.x k<n)):bvL (hldM r k) n=bvL (hldM r (k+1)) n:=by
 unfold bvL;apply List.map_congr_left
 intro i hi
 congr 1
 unfold hldM;rw[zhs h];have hi:=List.mem_range.1 hi;have:¬(i:Int)=r.x k:=by omega
 simp[this]
theorem zuj (r:Rw Int)(n:Nat):bvL (hldM r 0) n=bvL (fun _=>false) n:=by
 unfold bvL;apply List.map_congr_left
 intro i _
 congr 1
structure Hb (w0:World)(f:Cf)(r:Rw Int)(BH k:Nat)(u:World):Prop where
 bl:Below w0.heap.size w0 u
 bF:Blk u w0.heap.size f.vs 44
 bH:Blk u BH (bvL (hldM r k) f.cd.len) 4
 ne:w0.heap.size<BH
theorem Hb.kept {w0:World}{f:Cf}{r:Rw Int}{BH k:Nat}{u u':World}(h:Hb w0 f r BH k u)(hb:Below u.heap.size u u'):Hb w0 f r BH k u':=⟨Below.next h.bl hb,h.bF.kept hb,h.bH.kept hb,h.ne⟩
theorem zqg (f:Cf)(r:Rw Int)(w:World)(hr:NmAt w r)(hn:f.cd.len≤100000):Calls Tryz.prog 40 #[.agg f.vs.toArray,.slice r.ao r.len r.cap] w fun e w'=>∃BH:Nat,e=.returned (.slice (some ⟨BH,0,none⟩) f.cd.len f.cd.len)∧w.heap.size<BH∧Blk w' BH (bvL (fun p=>decide ((p:Int) ∈ r.ls)) f.cd.len) 4∧Below w.heap.size w w':=by
 have HFIN:Hid (∀u BH,Hb w f r BH r.len u→Blk u BH (bvL (fun p=>decide ((p:Int) ∈ r.ls)) f.cd.len) 4):=fun u BH h=>by
  have:=h.bH;rw[show hldM r r.len=fun p:Nat=>decide ((p:Int) ∈ r.ls) from funext (ztz r)] at this;exact this
 have H1:=hyd (Fb.new w f);have HD:=hyd hr;have hbr:=hr.bound;have HNR:=hyd hr.nil;clear hr;generalize hw:w.alloc (.cells f.vs.toArray 44)=u1 at *;go_enter Tryz.func40,Tryz.ntmps40
 go_upto_region 1 with fail
 clear hw;have c14:=H1.out.b.cell 14 rfl;go_upto_region 2 with (refine zfp rfl _ _ _ rfl 4 (.bool false) 1 Tryz.underlying34 (by kernel_rfl) rfl f.cd.len rfl rfl (by omega) (by omega) ?_;intro w1 hb1 hl1;have H2:Hid (Hb w f r u1.heap.size 0 w1):=⟨Below.next H1.out.bl hl1,H1.out.b.kept hl1,by rw[zuj,←zwd];exact hb1,H1.out.b.lt⟩;clear hb1 hl1 H1 c14)
 generalize u1.heap.size=BH at *;go_wp2;go_loopw [14] (fun i wr=>∃(k:Nat),k≤r.len∧i=.int .i64 k∧Hb w f r BH k wr) (fun i _=>r.len - (intOf i).toNat)
 case atStart=>exact⟨0,Nat.zero_le _,rfl,H2.out⟩
 case round =>
  clear H2;obtain⟨k,hk,rfl,hB⟩:=hrel;have HB:=hyd hB;clear hB;by_cases hlt:k<r.len
  ·have ik:(k:Int)<r.len:=by omega
   have r0:=(HD.out.kept HB.out.bl).row k hlt 0 _ rfl;simp only[Nat.add_zero,Nat.mul_one] at r0;have HY:=hyd (fun q h=>zxc (q:=q) (n:=f.cd.len) hlt h);have HN:=hyd (fun h=>hld_no (n:=f.cd.len) hlt h);have rF:=HB.out.bF.range;have h0:=ze0 f (r.x k) wr;have HPL:=hyd (Cf.pl_iff (f:=f) (a:=r.x k));rw[HNR.out (by omega)];generalize r.x k=z at *;generalize f.pl z=pb at *;go_wp2_with (refine wpList_load_mid rfl 44 (.tmp 2) rfl w.heap.size 0 (by kernel_rfl) f.vs _ rF Tryz.underlying44 rfl (by kernel_rfl) ?_)
   refine h0.mono ?_;rintro _ u3 ⟨rfl,hb⟩;have H3:=hyd (HB.out.kept hb);clear h0 hb HB rF r0;cases pb
   ·have HE:Hid (bvL (hldM r k) f.cd.len=bvL (hldM r (k+1)) f.cd.len):=HN.out (fun h=>by have:=HPL.out.2 h;cases this)
    clear HY HN HPL;go_wp2;go_roundw
    case rel=>exact⟨k+1,by omega,by go_num,⟨H3.out.bl,H3.out.bF,by rw[←HE.out];exact H3.out.bH,H3.out.ne⟩⟩
    case measure=>simp[intOf];omega
   ·have hz:=HPL.out.1 rfl;obtain⟨q,rfl⟩:∃q:Nat,z=q:=⟨z.toNat,by omega⟩;have HE:=hyd (HY.out q rfl);have iq:(q:Int)<f.cd.len:=hz.2;clear HY HN HPL hz;go_wp2_with (refine zbd rfl 4 (.tmp 23) (.const (.bool true)) rfl rfl BH q (.bool true) _ _ (by kernel_rfl) (by kernel_rfl) (zax _ _ (by kernel_rfl) rfl rfl _ _) H3.out.bH (by rw[zec];omega) ?_;intro w5 W5;have H5:Hid (Hb w f r BH (k+1) w5):=⟨zb4 H3.out.bl W5.gb (fun k e=>by have:=Option.some.inj e;have:=H3.out.ne;omega),H3.out.bF.gb W5.gb (fun e=>by have:=Option.some.inj e;have:=H3.out.ne;omega),by rw[←HE.out,←zwg];exact W5.blk,H3.out.ne⟩;clear W5 H3);go_roundw
    case rel=>exact⟨k+1,by omega,by go_num,H5.out⟩
    case measure=>simp[intOf];omega
  ·have ik:¬(k:Int)<r.len:=by omega
   have hke:k=r.len:=by omega
   subst hke;have HE:=hyd (HFIN.out _ _ HB.out);go_wp2;go_ret;exact⟨BH,rfl,HB.out.ne,HE.out,HB.out.bl⟩
end
end Go.Proofs.YtfobijdkoeifjaaGreatDoor
