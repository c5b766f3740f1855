import Derived.Test.YtfobijdkoeifjaaGreatDoorP14
import Derived.Test.YtfobijdkoeifjaaGreatDoorP18
import Derived.BigQuiet
import Derived.Test.YtfobijdkoeifjaaGreatDoorShelf
import Derived.Sort.OwnSortedInts
import Derived.Lib.OwnBridge
import Derived.Test.YtfobijdkoeifjaaGreatDoorP15
import Derived.Deep.DeepCutAuto
import Derived.Test.YtfobijdkoeifjaaGreatDoorP8
import Derived.Deep.QuietTactic
import Derived.Test.YtfobijdkoeifjaaGreatDoorP13
import Derived.Laws.CopyOwn
import Derived.Laws.OwnMore
import Derived.Deep.LoopGhost
import Derived.Deep.CutBlock
import Derived.Test.YtfobijdkoeifjaaGreatDoorP10
set_option maxRecDepth 100000
set_option maxHeartbeats 32000000
namespace Go.Proofs.YtfobijdkoeifjaaGreatDoor
section
open Go Go.RowKit
theorem zc9 (f:Cf)(a:Int)(w:World):Calls Tryz.prog 84 #[.agg f.vs.toArray,.int .i64 a] w fun e w'=>e=.returned (.bool (f.pl a))∧Below w.heap.size w w':=by
 have B0:=hyd (zac w (.cells f.vs.toArray 44));have b:=Blk.new w f.vs 44;have c14:=b.cell 14 rfl;have HF:Hid (f.pl a=(decide (0≤a)&&decide (a<f.cd.len))):=rfl;generalize f.pl a=F at *;generalize f.vs.toArray=V at *;clear b;by_cases h1:0≤a
 ·by_cases h2:a<f.cd.len
  ·have HG:Hid (F=true):=by show _=_;rw[HF.out,decide_eq_true h1,decide_eq_true h2];rfl
   go_enter Tryz.func84,Tryz.ntmps84
   go_wp2;go_ret;exact⟨zaa HG.out.symm,B0.out⟩
  ·have HG:Hid (F=false):=by show _=_;rw[HF.out,decide_eq_true h1,decide_eq_false h2];rfl
   go_enter Tryz.func84,Tryz.ntmps84
   go_wp2;go_ret;exact⟨zaa HG.out.symm,B0.out⟩
 ·have HG:Hid (F=false):=by show _=_;rw[HF.out,decide_eq_false h1];rfl
  go_enter Tryz.func84,Tryz.ntmps84
  go_wp2;go_ret;exact⟨zaa HG.out.symm,B0.out⟩
theorem zpj (op:Int)(w:World):Calls Tryz.prog 124 #[.int .i64 op] w fun e w'=>e=.returned (.bool (nxO op))∧Below w.heap.size w w':=by
 have HF:Hid (nxO op=(((decide (op≠0)&&decide (op≠24))&&decide (op≠26))&&decide (op≠27))):=rfl;generalize nxO op=F at *;by_cases h1:op=0
 ·subst h1;go_enter Tryz.func124,Tryz.ntmps124
  go_wp2;go_ret;exact⟨zaa HF.out.symm,Below.refl _ _⟩
 by_cases h2:op=24
 ·subst h2;clear h1;go_enter Tryz.func124,Tryz.ntmps124
  go_wp2;go_ret;exact⟨zaa HF.out.symm,Below.refl _ _⟩
 by_cases h3:op=26
 ·subst h3;clear h1 h2;go_enter Tryz.func124,Tryz.ntmps124
  go_wp2;go_ret;exact⟨zaa HF.out.symm,Below.refl _ _⟩
 by_cases h4:op=27
 ·subst h4;clear h1 h2 h3;go_enter Tryz.func124,Tryz.ntmps124
  go_wp2;go_ret;exact⟨zaa HF.out.symm,Below.refl _ _⟩
 have HG:Hid (F=true):=by show _=_;rw[HF.out,decide_eq_true h1,decide_eq_true h2,decide_eq_true h3,decide_eq_true h4];rfl
 have e1:(op != 0)=true:=by simpa using h1
 have e2:(op != 24)=true:=by simpa using h2
 have e3:(op != 26)=true:=by simpa using h3
 have e4:(op != 27)=true:=by simpa using h4
 clear h1 h2 h3 h4;go_enter Tryz.func124,Tryz.ntmps124
 go_wp2;go_ret;exact⟨zaa HG.out.symm,Below.refl _ _⟩
theorem zbo {a b:Int}(h:a=b):Ending.returned (.int .i64 a)=.returned (.int .i64 b):=by rw[h]
structure Fx (w0:World)(f:Cf)(B:Nat)(w:World):Prop where
 bl:Below w0.heap.size w0 w
 b:Blk w B f.vs 44
 f:f.At w
theorem Fx.kept {w0:World}{f:Cf}{B:Nat}{w w':World}(h:Fx w0 f B w)(hb:Below w.heap.size w w'):Fx w0 f B w':=⟨Below.next h.bl hb,h.b.kept hb,Cf.At.kept hb h.f⟩
theorem Fx.new (w:World)(f:Cf)(hf:f.At w):Fx w f w.heap.size (w.alloc (.cells f.vs.toArray 44)) :=
 ⟨zac w _,Blk.new w f.vs 44,Cf.At.kept (zac w _) hf⟩
theorem zfu (f:Cf)(p:Nat)(w:World)(hf:f.At w)(hp:p<f.cd.len):Calls Tryz.prog 86 #[.agg f.vs.toArray,.int .i64 p] w fun e w'=>e=.returned (.int .i64 (f.han p))∧Below w.heap.size w w':=by
 have H1:=hyd (Fx.new w f hf);have hpl:f.pl p=true:=Cf.pl_iff.2 ⟨by omega,by omega⟩;have HM:=hyd (fun h=>Cf.han_miss (f:=f) (p:=p) h);have HH:=hyd (fun j h1 h2 h3=>Cf.han_hit (f:=f) (p:=p) (j:=j) h1 h2 h3);have HHI:Hid (∀i,f.hit p i=(decide ((f.hd.x i).fr≤p)&&decide ((p:Int)<(f.hd.x i).tw_))):=fun _=>rfl;have hbd:=hf.hd.bound;have HNIL:=hyd hf.hd.nil;clear hp hf;generalize f.han p=R at *;have h0:=zc9 f p (w.alloc (.cells f.vs.toArray 44));rw[hpl] at h0;have rF:=H1.out.b.range;generalize hw:w.alloc (.cells f.vs.toArray 44)=u1 at *;go_enter Tryz.func86,Tryz.ntmps86
 go_wp2_with (refine wpList_load_mid rfl 44 (.tmp 2) rfl w.heap.size 0 (by kernel_rfl) f.vs _ rF Tryz.underlying44 rfl (by kernel_rfl) ?_)
 refine h0.mono ?_;rintro _ u2 ⟨rfl,hb⟩;have H2:=hyd (H1.out.kept hb);clear h0 hb H1 rF hpl hw;have c15:=H2.out.b.cell 15 rfl;by_cases hz:0<f.hd.len
 ·rw[HNIL.out hz] at c15;go_wp2;go_loopw [14] (fun i wr=>∃(j:Nat),j≤f.hd.len∧i=.int .i64 j∧Fx w f w.heap.size wr∧(∀i,i<j→f.hit p i=false)) (fun i _=>f.hd.len - (intOf i).toNat)
  case atStart=>exact⟨0,Nat.zero_le _,rfl,H2.out,fun i hi=>absurd hi (Nat.not_lt_zero _)⟩
  case round =>
   clear H2 c15;obtain⟨j,hj,rfl,hBl,hall⟩:=hrel;have HB:=hyd hBl;have HL:=hyd hall;clear hBl hall;by_cases hlt:j<f.hd.len
   ·have ij:(j:Int)<f.hd.len:=by omega
    have r0:=HB.out.f.hd.row j hlt;have HH2:=hyd (HH.out j hlt);have HHJ:=hyd (HHI.out j);generalize f.hd.x j=x at *;go_upto_region 6 with (first | (refine wpList_load_mid rfl 123 (.tmp 16) rfl f.hd.b (f.hd.o+j*3) (by kernel_rfl) x.vs _ r0 Tryz.underlying123 rfl (by kernel_rfl) ?_) | (refine zao rfl rfl 123 rfl (.tmp 6) (.tmp 17) rfl z_hn (ze8 _) rfl x.vs.toArray (by kernel_rfl) (by kernel_rfl) rfl (by kernel_rfl) (by simpa using x.vs_one) ?_))
    have B1:=zac wr (.cells x.vs.toArray 123);have HU:=hyd (show Fx w f w.heap.size (wr.alloc (.cells x.vs.toArray 123))∧Blk _ wr.heap.size x.vs 123 from ⟨HB.out.kept B1,Blk.new wr _ _⟩);clear r0 HB B1;generalize wr.alloc (.cells x.vs.toArray 123)=U at *;generalize wr.heap.size=BX at *;have d0:=HU.out.2.cell 0 rfl;have d1:=HU.out.2.cell 1 rfl;have d2:=HU.out.2.cell 2 rfl;by_cases k1:x.fr≤(p:Int)
    ·by_cases k2:(p:Int)<x.tw_
     ·have HE:Hid (R=x.at_):=HH2.out (by rw[HHJ.out,decide_eq_true k1,decide_eq_true k2];rfl) HL.out
      go_wp2;go_ret;exact⟨zbo HE.out.symm,HU.out.1.bl⟩
     ·have HE:Hid (f.hit p j=false):=by show _=_;rw[HHJ.out,decide_eq_true k1,decide_eq_false k2];rfl
      go_wp2;go_roundw
      case rel=>exact⟨j+1,by omega,by go_num,HU.out.1,fun i hi=>by
       by_cases e:i=j
       ·rw[e];exact HE.out
       ·exact HL.out i (by omega)⟩
      case measure=>simp[intOf];omega
    ·have HE:Hid (f.hit p j=false):=by show _=_;rw[HHJ.out,decide_eq_false k1];rfl
     go_wp2;go_roundw
     case rel=>exact⟨j+1,by omega,by go_num,HU.out.1,fun i hi=>by
      by_cases e:i=j
      ·rw[e];exact HE.out
      ·exact HL.out i (by omega)⟩
     case measure=>simp[intOf];omega
   ·have e2:¬(j:Int)<f.hd.len:=by omega
    have HE:Hid (R=-1):=HM.out (fun i hi=>HL.out i (by omega));go_wp2;go_ret;exact⟨zbo HE.out.symm,HB.out.bl⟩
 ·have i0:¬(0:Int)<f.hd.len:=by omega
  have HE:Hid (R=-1):=HM.out (fun i hi=>by omega);clear hz;go_wp2;go_loopw [14] (fun i wr=>i=.int .i64 0∧Below w.heap.size w wr) (fun _ _=>0)
  case atStart=>exact⟨rfl,H2.out.bl⟩
  case round =>
   obtain⟨rfl,hb⟩:=hrel;have HB:=hyd hb;clear hb;go_wp2;go_ret;exact⟨zbo HE.out.symm,HB.out⟩
theorem zgo (f:Cf)(g:Rw Bool)(p:Nat)(w:World)(hf:f.At w)(hg:BlAt w g)(hp:p<f.cd.len):Calls Tryz.prog 87 #[.agg f.vs.toArray,.slice g.ao g.len g.cap,.int .i64 p] w fun e w'=>e=.returned (.bool (f.rs g p))∧Below w.heap.size w w':=by
 have H1:=hyd (Fx.new w f hf);have hpl:f.pl p=true:=Cf.pl_iff.2 ⟨by omega,by omega⟩;have HF:Hid (f.rs g p=(rsO (f.cd.x p).op||(decide ((f.cd.x p).op=19)&&rsG g p))):=rfl;have hbd:=hf.cd.bound;have ip:(p:Int)<f.cd.len:=by omega
 have HN14:=hyd (hf.cd.nil (by omega));have HGR:=hyd hg;clear hf hg;generalize f.rs g p=F at *;have h0:=zc9 f p (w.alloc (.cells f.vs.toArray 44));rw[hpl] at h0;have rF:=H1.out.b.range;generalize hw:w.alloc (.cells f.vs.toArray 44)=u1 at *;go_enter Tryz.func87,Tryz.ntmps87
 go_wp2_with (refine wpList_load_mid rfl 44 (.tmp 3) rfl w.heap.size 0 (by kernel_rfl) f.vs _ rF Tryz.underlying44 rfl (by kernel_rfl) ?_)
 refine h0.mono ?_;rintro _ u2 ⟨rfl,hb⟩;have H2:=hyd (H1.out.kept hb);have HG:=hyd (BlAt.kept HGR.out H2.out.bl);clear h0 hb H1 rF hpl hw HGR;have c14:=H2.out.b.cell 14 rfl;rw[HN14.out] at c14;have r0:=H2.out.f.cd.row p hp 0 _ rfl;simp only[Nat.add_zero] at r0;generalize (f.cd.x p).op=op at *;have HNG:=hyd HG.out.nil;by_cases o9:op=9
 ·subst o9;have HE:Hid (F=true):=HF.out;go_wp2;go_ret;exact⟨zaa HE.out.symm,H2.out.bl⟩
 have n9:(op==9)=false:=by simpa using o9
 by_cases o10:op=10
 ·subst o10;have HE:Hid (F=true):=HF.out;go_wp2;go_ret;exact⟨zaa HE.out.symm,H2.out.bl⟩
 have n10:(op==10)=false:=by simpa using o10
 by_cases o26:op=26
 ·subst o26;have HE:Hid (F=true):=HF.out;go_wp2;go_ret;exact⟨zaa HE.out.symm,H2.out.bl⟩
 have n26:(op==26)=false:=by simpa using o26
 have HF2:Hid (F=(decide (op=19)&&rsG g p)):=by show _=_;rw[HF.out];unfold rsO;rw[decide_eq_false o9,decide_eq_false o10,decide_eq_false o26];rfl
 clear o9 o10 o26 HF;by_cases o19:op=19
 ·subst o19;have HF3:Hid (F=(decide (p<g.len)&&g.x p)):=HF2.out;clear n9 n10 n26;by_cases gl:p<g.len
  ·have il:(p:Int)<g.len:=by omega
   have HE:Hid (F=g.x p):=by show _=_;rw[HF3.out,decide_eq_true gl];rfl
   rw[HNG.out (by omega)];have q0:=HG.out.row p gl 0 _ rfl;simp only[Nat.add_zero,Nat.mul_one] at q0;clear gl;go_wp2;go_ret;exact⟨zaa HE.out.symm,H2.out.bl⟩
  ·have il:¬(p:Int)<g.len:=by omega
   have HE:Hid (F=false):=by show _=_;rw[HF3.out,decide_eq_false gl];rfl
   clear gl;go_wp2;go_ret;exact⟨zaa HE.out.symm,H2.out.bl⟩
 have n19:(op==19)=false:=by simpa using o19
 have HE:Hid (F=false):=by show _=_;rw[HF2.out,decide_eq_false o19];rfl
 clear o19 HF2;go_wp2;go_ret;exact⟨zaa HE.out.symm,H2.out.bl⟩
theorem zp9 (f:Cf)(p:Nat)(w:World)(hf:f.At w)(hp:p<f.cd.len):Calls Tryz.prog 125 #[.agg f.vs.toArray,.int .i64 p] w fun e w'=>e=.returned (.int .i64 (f.tg p))∧Below w.heap.size w w':=by
 have H2:=hyd (Fx.new w f hf);have HF:Hid (f.tg p=if ((f.cd.x p).op=24∨(f.cd.x p).op=25)∧(0≤(f.cd.x p).a∧(f.cd.x p).a<f.cd.len) then (f.cd.x p).a else -1):=rfl;have hbd:=hf.cd.bound;have ip:(p:Int)<f.cd.len:=by omega
 have HN14:=hyd (hf.cd.nil (by omega));clear hf;generalize f.tg p=F at *;have c14:=H2.out.b.cell 14 rfl;rw[HN14.out] at c14;have r0:=H2.out.f.cd.row p hp;generalize f.cd.x p=x at *;generalize hw:w.alloc (.cells f.vs.toArray 44)=u2 at *;go_enter Tryz.func125,Tryz.ntmps125
 go_upto_region 2 with (first | (refine wpList_load_mid rfl 50 (.tmp 10) rfl f.cd.b (f.cd.o+p*7) (by kernel_rfl) x.vs _ r0 Tryz.underlying50 rfl (by kernel_rfl) ?_) | (refine zao rfl rfl 50 rfl (.tmp 5) (.tmp 11) rfl zfk (zeq _) rfl x.vs.toArray (by kernel_rfl) (by kernel_rfl) rfl (by kernel_rfl) (by simpa using x.vs_one) ?_))
 have B1:=zac u2 (.cells x.vs.toArray 50);have HS:=hyd (show Fx w f w.heap.size _∧Blk _ u2.heap.size x.vs 50 from ⟨H2.out.kept B1,Blk.new u2 _ _⟩);clear H2 hw r0 c14 B1;generalize u2.alloc (.cells x.vs.toArray 50)=u3 at *;generalize u2.heap.size=BI at *;have d0:=HS.out.2.cell 0 rfl;have d1:=HS.out.2.cell 1 rfl;have c14:=HS.out.1.b.cell 14 rfl;rw[HN14.out] at c14;generalize x.op=op at *;generalize x.a=a at *;by_cases o1:op=24∨op=25
 ·have HF2:Hid (F=if 0≤a∧a<f.cd.len then a else -1):=by
   show _=_
   rw[HF.out];by_cases h:0≤a∧a<f.cd.len
   ·rw[if_pos ⟨o1,h⟩,if_pos h]
   ·rw[if_neg (fun k=>h k.2),if_neg h]
  clear HF;have key:∀q,(0≤a∧a<f.cd.len∧q=a)∨(0≤a∧¬a<f.cd.len∧q=-1)∨(¬0≤a∧q=-1)↔q=if 0≤a∧a<f.cd.len then a else -1:=by
   intro q;by_cases h1:0≤a <;> by_cases h2:a<f.cd.len <;> simp[h1,h2]
  have HK:=hyd ((key F).2 HF2.out);clear key HF2;by_cases a1:a<0
  ·have HE:Hid (F=-1):=by rcases HK.out with h | h | h;exact absurd h.1 (by omega);exact absurd h.1 (by omega);exact h.2
   clear HK;rcases o1 with o1 | o1
   ·subst o1;go_wp2;go_ret;exact⟨zbo HE.out.symm,HS.out.1.bl⟩
   ·subst o1;go_wp2;go_ret;exact⟨zbo HE.out.symm,HS.out.1.bl⟩
  ·by_cases a2:(f.cd.len:Int)≤a
   ·have HE:Hid (F=-1):=by rcases HK.out with h | h | h;exact absurd h.2.1 (by omega);exact h.2.2;exact h.2
    clear HK;rcases o1 with o1 | o1
    ·subst o1;go_wp2;go_ret;exact⟨zbo HE.out.symm,HS.out.1.bl⟩
    ·subst o1;go_wp2;go_ret;exact⟨zbo HE.out.symm,HS.out.1.bl⟩
   ·have HE:Hid (F=a):=by rcases HK.out with h | h | h;exact h.2.2;exact absurd h.2.1 (by omega);exact absurd h.1 (by omega)
    clear HK;rcases o1 with o1 | o1
    ·subst o1;go_wp2;go_ret;exact⟨zbo HE.out.symm,HS.out.1.bl⟩
    ·subst o1;go_wp2;go_ret;exact⟨zbo HE.out.symm,HS.out.1.bl⟩
 ·have HE:Hid (F=-1):=by show _=_;rw[HF.out,if_neg (fun h=>o1 h.1)]
  have n1:(op==24)=false:=by simp;omega
  have n2:(op==25)=false:=by simp;omega
  clear o1 HF;go_wp2;go_ret;exact⟨zbo HE.out.symm,HS.out.1.bl⟩
theorem znm {P:Program}{ops:Array Oper}{rest:List Oper}{o:Oper}{a:Act}{w:World}{Q:Exit→Act→World→Prop}(hw:Region.wanted o (yielded ops a.tmps)=true)(h:o.wp P a w (wpList P ops Q rest) Q):wpList P ops Q (o :: rest) a w:=by
 unfold wpList;rw[if_pos hw];exact .inl h
theorem zco {P:Program}{ops:Array Oper}{rest:List Oper}{op:Oper}{a:Act}{w:World}{Q:Exit→Act→World→Prop}(hw:Region.wanted op (yielded ops a.tmps)=true)(ty:TypeId)(x:Operand)(ho:op.op=.load ty x)
  (b o:Nat) (hx:a.eval x=.pointer (some ⟨b,o,none⟩)) (cs:List Value) (d:TypeDesc) (hc:w.rangeAt b o cs)
  (hu:P.underlying ty=some d) (hd:d.isRow=true) (hi:(P.info? ty).map (·.size)=some cs.length)
  (h:wpList P ops Q rest (a.put op.dst (.agg cs.toArray)) w):wpList P ops Q (op :: rest) a w :=
 znm hw (wp_load_mid ty x ho b o hx cs d hc hu hd hi h)
theorem zw3 (l:List Int):∀u ∈ ivL l,u.oneCell'=true:=by
 intro u hu;obtain⟨a,_,rfl⟩:=List.mem_map.1 hu;rfl
theorem Tryz.infoI:(Tryz.prog.info? 3).map (fun i=>(i.zero,i.size,i.bytes))=some (some (.int .i64 0),1,8):=by kernel_rfl
theorem zoq {w:World}{cs:List Value}{t:TypeId}:∀a:Addr,some (⟨w.heap.size,0,none⟩:Addr)=some a→∀j u,cs[j]?=some u→(w.alloc (.cells cs.toArray t)).cell? (a.add j)=some u:=by
 intro a ha j u hj;cases ha
 rw[adp];simp only[Nat.zero_add];exact (Blk.new w cs t).cell j hj
theorem zej {w:World}{ops:Array Oper}{rest:List Oper}{o:Oper}{a:Act}{Q:Exit→Act→World→Prop}(hgd:o.guard=none)(s x:Operand)
  (hop:o.op=.call { callee:=.builtin .append,args:=#[s,x],argTypes:=#[51,51] }) (base:Nat) (v:Value) (l:List Int) (z:Int) (hs:a.eval s=v) (ho:Oi w base v l) (hx:a.eval x=.slice (some ⟨w.heap.size,0,none⟩) 1 1) (hl:l.length≤1000000) (hb:base≤w.heap.size)
  (h:∀v' w',Oi w' base v' (l++[z])→w.grownBy w' v.ownBlock→wpList Tryz.prog ops Q rest (a.put o.dst v') w'):wpList Tryz.prog ops Q (o :: rest) a (w.alloc (.cells #[.int .i64 z] 3)):=by
 have hE:(w.alloc (.cells #[.int .i64 z] 3)).ownsRow base 3 1 v l.length (ivL l):=ho.alloc _;refine zcl Tryz.underlying51 Tryz.infoI rfl (by decide) hgd s x hop base v l.length (ivL l) hs hE (some ⟨w.heap.size,0,none⟩) 1 1 [.int .i64 z] hx (fun h=>by cases h) rfl (zoq (cs:=[.int .i64 z])) (zw3 [z]) (by unfold maxLen;omega) (by omega) (by rw[alloc_size];omega) ?_
 intro v' w' h1 h2;refine h v' w' ?_ ?_
 ·unfold Oi;rw[List.length_append,ivL,List.map_append];exact h1
 ·have g0:=World.grownBy_alloc w (.cells #[.int .i64 z] 3) v.ownBlock;refine⟨h2.os.trans g0.os,h2.tape.trans g0.tape,h2.output.trans g0.output,Nat.le_trans g0.size h2.size,fun k hk hne=>?_⟩;rw[h2.block k (by rw[alloc_size];omega) hne]
  exact g0.block k hk hne
theorem zv3 (w:World)(base:Nat)(v:Value)(l:List Int)(h:Oi w base v l)(hl:l.length≤1000000):Calls Tryz.prog 126 #[v] w fun e w'=>e=.returned (.tuple #[])∧Oi w' base v (l.mergeSort fun x y=>decide (x≤y))∧w.grownBy w' v.ownBlock:=by
 have hlen:(l.mergeSort fun x y=>decide (x≤y)).length=l.length:=List.length_mergeSort l;have h':=h;obtain⟨_,⟨rfl,h0⟩ | ⟨g,cap,cur,rfl,hb,hg,hn,hc,hs,ht⟩⟩:=h
 ·have e:l=[]:=List.eq_nil_of_length_eq_zero h0;subst e;refine (Tryz.slices_Sort_int_none none 0 w).mono ?_;rintro e w' ⟨rfl,rfl⟩;exact⟨rfl,by rw[List.mergeSort_nil];exact h',gbr _ _⟩
 ·have hH:=holds_of_blockI (ss:=l) hg (by rw[Nat.mul_one] at ht;exact ht)
  refine (Tryz.slices_Sort_int g 0 cap l w hH (Array.getElem?_eq_some_iff.1 hg).1 (by omega)).mono ?_;rintro e w' ⟨rfl,n,os,rfl⟩;refine⟨rfl,?_,grownBy_sortedI _⟩;have:=ownsRow_sortedI (n:=n) (os:=os) (ts:=l.mergeSort fun x y=>decide (x≤y)) hlen hb hg hn hc hs;unfold Oi;rw[hlen];exact this
theorem zpm (l:List Int):(Lib.compact l).length≤l.length:=by
 show (List.map _ (List.filter _ _)).length≤_
 rw[List.length_map];exact Nat.le_trans (List.length_filter_le _ _) (by simp)
theorem zqd (w:World)(base:Nat)(v:Value)(l:List Int)(h:Oi w base v l)(hl:l.length≤1000000):Calls Tryz.prog 127 #[v] w fun e w'=>∃v',e=.returned v'∧Oi w' base v' (Lib.compact l)∧w.grownBy w' v.ownBlock:=by
 have h':=h;obtain⟨_,⟨rfl,h0⟩ | ⟨g,cap,cur,rfl,hb,hg,hn,hc,hs,ht⟩⟩:=h
 ·have e:l=[]:=List.eq_nil_of_length_eq_zero h0;subst e;refine (Tryz.slices_Compact_int_empty none 0 w).mono ?_;rintro e w' ⟨rfl,rfl⟩;exact⟨_,rfl,h',gbr _ _⟩
 ·have hH:=holds_of_blockI (ss:=l) hg (by rw[Nat.mul_one] at ht;exact ht)
  have hcl:=zpm l;refine (Tryz.slices_Compact_int g 0 cap l w hH (by omega) hn).mono ?_;rintro e w' ⟨rfl,q,rfl⟩;refine⟨_,rfl,?_,?_⟩
  ·have:=Lib.ownsRow_putRow (enc:=Value.int .i64) (q:=q) (k:=(Lib.compact l).length) (ys:=Lib.compact l++List.replicate (l.length - (Lib.compact l).length) 0) (zs:=l) (cap:=cap) (g:=g) (w:=w) (base:=base) (e:=3) (n:=l.length) h' (by simp;omega) hcl
   rw[List.take_left] at this;exact this
  ·have:=grownBy_sortedI (w:=w) (g:=g) (n:=q) (os:=#[]) (Lib.compact l++List.replicate (l.length - (Lib.compact l).length) 0).toArray;rw[Sort.grow_empty] at this;exact this
structure Fb (w0:World)(f:Cf)(B:Nat)(w:World):Prop where
 bl:Below w0.heap.size w0 w
 b:Blk w B f.vs 44
theorem Fb.kept {w0:World}{f:Cf}{B:Nat}{w w':World}(h:Fb w0 f B w)(hb:Below w.heap.size w w'):Fb w0 f B w':=⟨Below.next h.bl hb,h.b.kept hb⟩
theorem Fb.grown {w0:World}{f:Cf}{B:Nat}{w w':World}{r:Option Nat}(h:Fb w0 f B w)(hg:w.grownBy w' r)(hr:∀k,r=some k→w0.heap.size≤k∧k≠B):Fb w0 f B w' :=
 ⟨zb4 h.bl hg (fun k hk=>(hr k hk).1),by unfold Blk;rw[hg.block B h.b.lt (fun e=>(hr B e.symm).2 rfl)];exact h.b⟩
theorem Fb.new (w:World)(f:Cf):Fb w f w.heap.size (w.alloc (.cells f.vs.toArray 44)):=⟨zac w _,Blk.new w f.vs 44⟩
structure Wv (w0:World)(f:Cf)(v:Value)(l:List Int)(w:World):Prop where
 x:Fb w0 f w0.heap.size w
 o:Oi w (w0.heap.size+1) v l
theorem Wv.kept {w0:World}{f:Cf}{v:Value}{l:List Int}{w w':World}(h:Wv w0 f v l w)(hb:Below w.heap.size w w'):Wv w0 f v l w':=⟨h.x.kept hb,h.o.kept hb⟩
theorem Wv.size {w0:World}{f:Cf}{v:Value}{l:List Int}{w:World}(h:Wv w0 f v l w):w0.heap.size+1≤w.heap.size:=h.x.b.lt
theorem Wv.tw_ {w0:World}{f:Cf}{v v':Value}{l l':List Int}{w w':World}(h:Wv w0 f v l w)(ho:Oi w' (w0.heap.size+1) v' l')(hg:w.grownBy w' v.ownBlock):Wv w0 f v' l' w' :=
 ⟨h.x.grown hg (fun k hk=>by have:=(owb h.o hk).1;omega),ho⟩
theorem zga {w:World}{base b':Nat}{v:Value}{l:List Int}(h:Oi w base v l)(hb:b'≤base):Oi w b' v l:=by
 obtain⟨h0,h1 | ⟨g,cap,cur,h1,h2,h3⟩⟩:=h
 ·exact⟨h0,Or.inl h1⟩
 ·exact⟨h0,Or.inr ⟨g,cap,cur,h1,by omega,h3⟩⟩
theorem Cf.w1_t {f:Cf}{p:Nat}(h1:nxO (f.cd.x p).op=true)(h2:f.pl ((p:Int)+1)=true):f.w1 p=[(p:Int)+1]:=by
 unfold Cf.w1;rw[if_pos ⟨h1,by have:=Cf.pl_iff.1 h2;omega⟩]
theorem Cf.w1_f {f:Cf}{p:Nat}(h:nxO (f.cd.x p).op=false∨f.pl ((p:Int)+1)=false):f.w1 p=[]:=by
 unfold Cf.w1;rw[if_neg];rintro ⟨h1,h2⟩;rcases h with h | h
 ·rw[h] at h1;cases h1
 ·rw[Cf.pl_iff.2 ⟨by omega,by omega⟩] at h;cases h
theorem Cf.w3_t {f:Cf}{g:Rw Bool}{h:Int}{p:Nat}(h1:f.rs g p=true)(h2:f.pl h=true):f.w3 g h p=[h]:=by unfold Cf.w3;rw[if_pos ⟨h1,h2⟩]
theorem Cf.w3_f {f:Cf}{g:Rw Bool}{h:Int}{p:Nat}(k:f.rs g p=false∨f.pl h=false):f.w3 g h p=[]:=by
 unfold Cf.w3;rw[if_neg];rintro ⟨h1,h2⟩;rcases k with k | k
 ·rw[k] at h1;cases h1
 ·rw[k] at h2;cases h2
theorem Cf.w_len (f:Cf)(g:Rw Bool)(h:Int)(p:Nat):(f.w1 p).length≤1∧(f.w2 p).length≤1∧(f.w3 g h p).length≤1:=by
 unfold Cf.w1 Cf.w2 Cf.w3;refine⟨?_,?_,?_⟩ <;> split <;> simp
theorem zmx (f:Cf)(g:Rw Bool)(p:Nat)(h:Int)(w:World)(hf:f.At w)(hg:BlAt w g)(hp:p<f.cd.len):Calls Tryz.prog 85 #[.agg f.vs.toArray,.slice g.ao g.len g.cap,.int .i64 p,.int .i64 h] w fun e w'=>∃v,e=.returned v∧Oi w' w.heap.size v (f.wsH g h p)∧Below w.heap.size w w':=by
 have H1:Hid (Wv w f (.slice none 0 0) [] (w.alloc (.cells f.vs.toArray 44))):=⟨Fb.new w f,Oi.nil _ _⟩;have HD:=hyd (show f.At w∧BlAt w g∧p<f.cd.len from ⟨hf,hg,hp⟩);have HW:=hyd (f.wsH_eq g h p);have HLN:=hyd (f.w_len g h p);have hbd:=hf.cd.bound;have ip:(p:Int)<f.cd.len:=by omega
 have HN14:=hyd (hf.cd.nil (by omega));clear hf hg hp;generalize f.wsH g h p=R at *;generalize hw:w.alloc (.cells f.vs.toArray 44)=u1 at *;go_enter Tryz.func85,Tryz.ntmps85
 go_upto_region 2 with fail
 clear hw;go_cut [23] (fun c wx=>∃b:Bool,c=.bool b∧Hid (Wv w f (.slice none 0 0) [] wx)∧Hid (f.w1 p=if b=true then [(p:Int)+1] else []))
 case first =>
  have c14:=H1.out.x.b.cell 14 rfl;rw[HN14.out] at c14;have r0:=(Cf.At.kept H1.out.x.bl HD.out.1).cd.row p HD.out.2.2 0 _ rfl;simp only[Nat.add_zero] at r0;have HT:=hyd (fun h1 h2=>Cf.w1_t (f:=f) (p:=p) h1 h2);have HFf:=hyd (fun h=>Cf.w1_f (f:=f) (p:=p) h);generalize (f.cd.x p).op=op at *;have h0:=zpj op u1;generalize nxO op=nb at *;go_wp2_with fail
  refine h0.mono ?_;rintro _ u2 ⟨rfl,hb⟩;have H2:=hyd (H1.out.kept hb);clear h0 hb H1 c14 r0;cases nb
  ·go_wp2;go_meet
   case rel=>exact⟨false,rfl,H2.out,HFf.out (by simp)⟩
  ·have rF:=H2.out.x.b.range;have h0:=zc9 f ((p:Int)+1) u2;generalize f.pl ((p:Int)+1)=pb at *;go_wp2_with (refine zco (by kernel_rfl) 44 (.tmp 4) rfl w.heap.size 0 (by kernel_rfl) f.vs _ rF Tryz.underlying44 rfl (by kernel_rfl) ?_)
   refine h0.mono ?_;rintro _ u3 ⟨rfl,hb⟩;have H3:=hyd (H2.out.kept hb);clear h0 hb H2 rF;cases pb
   ·go_wp2;go_meet
    case rel=>exact⟨false,rfl,H3.out,HFf.out (by simp)⟩
   ·go_wp2;go_meet
    case rel=>exact⟨true,rfl,H3.out,HT.out (by simp) (by simp)⟩
 case rest =>
 obtain⟨b,rfl,hV,hE⟩:=hcut;have H2:=hyd hV.out;have HE:=hyd hE.out;clear hV hE H1
 go_upto_if 23 with fail
 go_cut [9] (fun v wx=>Hid (Wv w f v (f.w1 p) wx))
 case first =>
  cases b
  ·have HE2:Hid (f.w1 p=[]):=HE.out;go_wp2;go_meet
   case rel=>rw[HE2.out];exact H2.out
  ·have HE2:Hid (f.w1 p=[(p:Int)+1]):=HE.out;clear HE;go_wp2_with ((at_builtin;refine zej rfl _ _ rfl (w.heap.size+1) (.slice none 0 0) [] ((p:Int)+1) rfl H2.out.o rfl (by simp) H2.out.size ?_;intro v6 w6 h6 g6;have H3:=hyd (H2.out.tw_ h6 g6);clear h6 g6 H2));go_meet
   case rel=>rw[HE2.out];exact H3.out
 case rest =>
 clear H2 HE;have H2:=hyd hcut.out;clear hcut;go_upto_region 4 with fail
 have rF:=H2.out.x.b.range;have h0:=zp9 f p wc (Cf.At.kept H2.out.x.bl HD.out.1) HD.out.2.2;have HT2:Hid (f.w2 p=if f.tg p=-1 then [] else [f.tg p]):=rfl;generalize f.tg p=tg at *;go_upto_region 5 with (refine wpList_load_mid rfl 44 (.tmp 4) rfl w.heap.size 0 (by kernel_rfl) f.vs _ rF Tryz.underlying44 rfl (by kernel_rfl) ?_)
 refine h0.mono ?_;rintro _ u3 ⟨rfl,hb⟩;have H3:=hyd (H2.out.kept hb);clear h0 hb H2 rF
 go_upto_if 33 with fail
 go_cut [9] (fun v wx=>Hid (Wv w f v (f.w1 p++f.w2 p) wx))
 case first =>
  by_cases ht:tg=-1
  ·have e1:(tg != -1)=false:=by simpa using ht
   have HE2:Hid (f.w1 p++f.w2 p=f.w1 p):=by show _=_;rw[HT2.out,if_pos ht,List.append_nil]
   clear ht;go_wp2;go_meet
   case rel=>rw[HE2.out];exact H3.out
  ·have e1:(tg != -1)=true:=by simpa using ht
   have HE2:Hid (f.w1 p++f.w2 p=f.w1 p++[tg]):=by show _=_;rw[HT2.out,if_neg ht]
   clear ht;go_wp2_with ((at_builtin;refine zej rfl _ _ rfl (w.heap.size+1) u9 (f.w1 p) tg rfl H3.out.o rfl (by have:=HLN.out;omega) H3.out.size ?_;intro v6 w6 h6 g6;have H4:=hyd (H3.out.tw_ h6 g6);clear h6 g6 H3));go_meet
   case rel=>rw[HE2.out];exact H4.out
 case rest =>
 clear H3;have H2:=hyd hcut.out;clear hcut HT2;go_upto_region 7 with fail
 go_cut [46] (fun c wx=>∃b:Bool,c=.bool b∧Hid (Wv w f u9 (f.w1 p++f.w2 p) wx)∧Hid (f.w3 g h p=if b=true then [h] else []))
 case first =>
  have rF:=H2.out.x.b.range;have HT:=hyd (fun h1 h2=>Cf.w3_t (f:=f) (g:=g) (h:=h) (p:=p) h1 h2);have HFf:=hyd (fun k=>Cf.w3_f (f:=f) (g:=g) (h:=h) (p:=p) k);have h0:=zgo f g p wc (Cf.At.kept H2.out.x.bl HD.out.1) (BlAt.kept HD.out.2.1 H2.out.x.bl) HD.out.2.2;generalize f.rs g p=nb at *;go_wp2_with (refine wpList_load_mid rfl 44 (.tmp 4) rfl w.heap.size 0 (by kernel_rfl) f.vs _ rF Tryz.underlying44 rfl (by kernel_rfl) ?_)
  refine h0.mono ?_;rintro _ u2 ⟨rfl,hb⟩;have H3:=hyd (H2.out.kept hb);clear h0 hb H2 rF;cases nb
  ·go_wp2;go_meet
   case rel=>exact⟨false,rfl,H3.out,HFf.out (by simp)⟩
  ·have rF:=H3.out.x.b.range;have h0:=zc9 f h u2;generalize f.pl h=pb at *;go_wp2_with (refine zco (by kernel_rfl) 44 (.tmp 4) rfl w.heap.size 0 (by kernel_rfl) f.vs _ rF Tryz.underlying44 rfl (by kernel_rfl) ?_)
   refine h0.mono ?_;rintro _ u3 ⟨rfl,hb⟩;have H4:=hyd (H3.out.kept hb);clear h0 hb H3 rF;cases pb
   ·go_wp2;go_meet
    case rel=>exact⟨false,rfl,H4.out,HFf.out (by simp)⟩
   ·go_wp2;go_meet
    case rel=>exact⟨true,rfl,H4.out,HT.out (by simp) (by simp)⟩
 case rest =>
 obtain⟨b,rfl,hV,hE⟩:=hcut;clear H2;have H2:=hyd hV.out;have HE:=hyd hE.out;clear hV hE
 go_upto_if 46 with fail
 go_cut [9] (fun v wx=>Hid (Wv w f v (f.w1 p++f.w2 p++f.w3 g h p) wx))
 case first =>
  cases b
  ·have HE2:Hid (f.w1 p++f.w2 p++f.w3 g h p=f.w1 p++f.w2 p):=by show _=_;rw[HE.out];simp
   go_wp2;go_meet
   case rel=>rw[HE2.out];exact H2.out
  ·have HE2:Hid (f.w1 p++f.w2 p++f.w3 g h p=f.w1 p++f.w2 p++[h]):=by show _=_;rw[HE.out];simp
   clear HE;go_wp2_with ((at_builtin;refine zej rfl _ _ rfl (w.heap.size+1) u9 (f.w1 p++f.w2 p) h rfl H2.out.o rfl (by have:=HLN.out;rw[List.length_append];omega) H2.out.size ?_;intro v6 w6 h6 g6;have H4:=hyd (H2.out.tw_ h6 g6);clear h6 g6 H2));go_meet
   case rel=>rw[HE2.out];exact H4.out
 case rest =>
 clear H2 HE;have H2:=hyd hcut.out;clear hcut;have HLl:Hid ((f.w1 p++f.w2 p++f.w3 g h p).length≤1000000):=by show _≤_;have:=HLN.out;rw[List.length_append,List.length_append];omega
 generalize f.w1 p++f.w2 p++f.w3 g h p=L at *;have h0:=zv3 wc (w.heap.size+1) u9 L H2.out.o HLl.out;go_wp2_with fail
 refine h0.mono ?_;rintro _ u3 ⟨rfl,h6,g6⟩;have H3:=hyd (H2.out.tw_ h6 g6);clear h0 h6 g6 H2;have HLs:Hid ((L.mergeSort fun x y=>decide (x≤y)).length≤1000000):=by show _≤_;rw[List.length_mergeSort];exact HLl.out
 generalize (L.mergeSort fun x y=>decide (x≤y))=S at *;have h0:=zqd u3 (w.heap.size+1) u9 S H3.out.o HLs.out;go_wp2_with fail
 refine h0.mono ?_;rintro _ u4 ⟨v5,rfl,h6,g6⟩;have H4:=hyd (H3.out.tw_ h6 g6);clear h0 h6 g6 H3;rw[HW.out] at H4;go_wp2;go_ret;exact⟨_,rfl,(zga H4.out.o (Nat.le_succ _)),H4.out.x.bl⟩
theorem zad {C:World→Prop}{K:Act→Prop}{a:Act}{o:Oper}(ty:TypeId)(x:Operand)(ho:o.op=.load ty x)(b oo:Nat)(hx:a.eval x=.pointer (some ⟨b,oo,none⟩))(cs:List Value)(d:TypeDesc)(hc:∀w,C w→w.rangeAt b oo cs)
  (hu:Tryz.prog.underlying ty=some d) (hd:d.isRow=true) (hi:(Tryz.prog.info? ty).map (·.size)=some cs.length) (h:K (a.put o.dst (.agg cs.toArray))):o.quiet Tryz.prog a C K:=by
 refine⟨.agg cs.toArray,fun w hC=>?_,h⟩;unfold Oper.quietAt execOp;simp only[ho,hx,Sem.run_bind,run_loadAt_mid w b oo ty cs d (hc w hC) hu hd hi,Result.andThen_ok,Sem.run_pure];exact⟨rfl,rfl⟩
theorem znf (f:Cf)(g:Rw Bool)(p:Nat)(w:World)(hf:f.At w)(hg:BlAt w g)(hp:p<f.cd.len):Calls Tryz.prog 42 #[.agg f.vs.toArray,.slice g.ao g.len g.cap,.int .i64 p] w fun e w'=>∃v,e=.returned v∧Oi w' w.heap.size v (f.ws g p)∧Below w.heap.size w w':=by
 have HWS:Hid (f.ws g p=f.wsH g (f.han p) p):=rfl;generalize f.ws g p=R at *;have H1:=hyd (Fb.new w f);have hpl:f.pl p=true:=Cf.pl_iff.2 ⟨by omega,by omega⟩;have HD:=hyd (show f.At w∧BlAt w g∧p<f.cd.len from ⟨hf,hg,hp⟩);have hbd:=hf.cd.bound;have ip:(p:Int)<f.cd.len:=by omega
 have HN14:=hyd (hf.cd.nil (by omega));clear hf hg hp;have h0:=zc9 f p (w.alloc (.cells f.vs.toArray 44));rw[hpl] at h0;have rF:=H1.out.b.range;generalize hw:w.alloc (.cells f.vs.toArray 44)=u1 at *;go_enter Tryz.func42,Tryz.ntmps42
 go_wp2_with (refine wpList_load_mid rfl 44 (.tmp 3) rfl w.heap.size 0 (by kernel_rfl) f.vs _ rF Tryz.underlying44 rfl (by kernel_rfl) ?_)
 refine h0.mono ?_;rintro _ u2 ⟨rfl,hb⟩;have H2:=hyd (H1.out.kept hb);clear h0 hb H1 rF hpl hw;go_upto_region 3 with fail
 have rF:=H2.out.b.range;have hh:∀x:Gr u2,Calls Tryz.prog 86 #[.agg f.vs.toArray,.int .i64 p] x.w fun e w'=>e=.returned (.int .i64 (f.han p))∧Below x.w.heap.size x.w w':=fun x=>zfu f p x.w (Cf.At.kept (Below.next H2.out.bl x.bl) HD.out.1) HD.out.2.2;generalize f.han p=hn at *;refine zas 6 (by kernel_rfl) (by kernel_rfl) ?_;simp only[List.take,List.drop];go_big_quiet_want;refine zad 44 (.tmp 3) rfl w.heap.size 0 (by kernel_rfl) f.vs _ (fun _ hC=>by obtain⟨x,rfl⟩:=hC;exact zaf rF (Gr.bl x)) Tryz.underlying44 rfl (by kernel_rfl) ?_
 simp only[Act.put,zA,zB,zC];go_big_quiet_on;iterate 2 go_big_quiet_step (fail)
 go_big_quiet_want;refine zad 44 (.tmp 3) rfl w.heap.size 0 (by kernel_rfl) f.vs _ (fun _ hC=>by obtain⟨x,rfl⟩:=hC;exact zaf rF (Gr.bl x)) Tryz.underlying44 rfl (by kernel_rfl) ?_
 simp only[Act.put,zA,zB,zC];go_big_quiet_on;go_big_quiet_step (fail)
 go_big_quiet_step ((go_at_call 86;exact Calls.gr _ (hh _)))
 refine wpQuiet_nil ?_;rintro y1 ⟨xg,rfl⟩;have Bg:=xg.bl;generalize xg.w=y1 at Bg ⊢;have H3:=hyd (H2.out.kept Bg);clear Bg xg H2 rF hh;have h0:=zmx f g p hn y1 (Cf.At.kept H3.out.bl HD.out.1) (BlAt.kept HD.out.2.1 H3.out.bl) HD.out.2.2;go_wp2_with fail
 refine h0.mono ?_;rintro _ u4 ⟨v,rfl,hO,hb⟩;have H4:=hyd (show Below w.heap.size w u4∧Oi u4 w.heap.size v R from ⟨Below.next H3.out.bl hb,by rw[HWS.out];exact zga hO H3.out.bl.size⟩)
 clear h0 hO hb H3;go_wp2;go_ret;exact⟨_,rfl,H4.out.2,H4.out.1⟩
theorem zpz (f:Cf)(g:Rw Bool)(p:Nat)(w:World)(hf:f.At w)(hg:BlAt w g)(hp:p<f.cd.len):Calls Tryz.prog 44 #[.agg f.vs.toArray,.slice g.ao g.len g.cap,.int .i64 p] w fun e w'=>e=.returned (.bool (f.lv g p))∧Below w.heap.size w w':=by
 have HWS:Hid (f.lv g p=(decide ((f.cd.x p).op=27)||(f.rs g p&&decide (f.han p=-1)))):=rfl;generalize f.lv g p=R at *;have H1:=hyd (Fb.new w f);have hpl:f.pl p=true:=Cf.pl_iff.2 ⟨by omega,by omega⟩;have HD:=hyd (show f.At w∧BlAt w g∧p<f.cd.len from ⟨hf,hg,hp⟩);have hbd:=hf.cd.bound;have ip:(p:Int)<f.cd.len:=by omega
 have HN14:=hyd (hf.cd.nil (by omega));clear hf hg hp;have h0:=zc9 f p (w.alloc (.cells f.vs.toArray 44));rw[hpl] at h0;have rF:=H1.out.b.range;generalize hw:w.alloc (.cells f.vs.toArray 44)=u1 at *;go_enter Tryz.func44,Tryz.ntmps44
 go_wp2_with (refine wpList_load_mid rfl 44 (.tmp 3) rfl w.heap.size 0 (by kernel_rfl) f.vs _ rF Tryz.underlying44 rfl (by kernel_rfl) ?_)
 refine h0.mono ?_;rintro _ u2 ⟨rfl,hb⟩;have H2:=hyd (H1.out.kept hb);clear h0 hb H1 rF hpl hw;have c14:=H2.out.b.cell 14 rfl;rw[HN14.out] at c14;have r0:=(Cf.At.kept H2.out.bl HD.out.1).cd.row p HD.out.2.2 0 _ rfl;simp only[Nat.add_zero] at r0;have hr:=zgo f g p u2 (Cf.At.kept H2.out.bl HD.out.1) (BlAt.kept HD.out.2.1 H2.out.bl) HD.out.2.2;have hh:Hid (∀u,Below w.heap.size w u→Calls Tryz.prog 86 #[.agg f.vs.toArray,.int .i64 p] u fun e w'=>e=.returned (.int .i64 (f.han p))∧Below u.heap.size u w'):=fun u hb=>zfu f p u (Cf.At.kept hb HD.out.1) HD.out.2.2;generalize (f.cd.x p).op=op at *;generalize f.rs g p=rb at *;generalize f.han p=hn at *;by_cases o1:op=27
 ·subst o1;have HE:Hid (R=true):=HWS.out;go_wp2;go_ret;exact⟨zaa HE.out.symm,H2.out.bl⟩
 have n1:(op==27)=false:=by simpa using o1
 have HW2:Hid (R=(rb&&decide (hn=-1))):=by show _=_;rw[HWS.out,decide_eq_false o1];rfl
 clear o1 HWS;have rF:=H2.out.b.range;go_wp2_with (refine zco (by kernel_rfl) 44 (.tmp 3) rfl w.heap.size 0 (by kernel_rfl) f.vs _ rF Tryz.underlying44 rfl (by kernel_rfl) ?_)
 refine hr.mono ?_;rintro _ u3 ⟨rfl,hb⟩;have H3:=hyd (H2.out.kept hb);clear hr hb H2 rF r0 c14;cases rb
 ·have HE:Hid (R=false):=HW2.out;go_wp2;go_ret;exact⟨zaa HE.out.symm,H3.out.bl⟩
 have rF:=H3.out.b.range;have h0:=hh.out u3 H3.out.bl;go_wp2_with (refine zco (by kernel_rfl) 44 (.tmp 3) rfl w.heap.size 0 (by kernel_rfl) f.vs _ rF Tryz.underlying44 rfl (by kernel_rfl) ?_)
 refine h0.mono ?_;rintro _ u4 ⟨rfl,hb⟩;have H4:=hyd (H3.out.kept hb);clear h0 hb H3 rF;by_cases e:hn=-1
 ·have e1:(hn==-1)=true:=by simpa using e
  have HE:Hid (R=true):=by show _=_;rw[HW2.out,decide_eq_true e];rfl
  clear e;go_wp2;go_ret;exact⟨zaa HE.out.symm,H4.out.bl⟩
 ·have e1:(hn==-1)=false:=by simpa using e
  have HE:Hid (R=false):=by show _=_;rw[HW2.out,decide_eq_false e];rfl
  clear e;go_wp2;go_ret;exact⟨zaa HE.out.symm,H4.out.bl⟩
theorem zp2 {w:World}{base:Nat}{e:TypeId}{g n:Nat}{xs:List Value}(h:w.ownsRow base e 1 (.slice (some ⟨g,0,none⟩) n n) n xs):Blk w g xs e:=by
 obtain⟨h0,⟨h1,_⟩ | ⟨g',cap,cur,h1,_,h3,_,_,h6,h7⟩⟩:=h
 ·cases h1
 ·injection h1 with e1 _ e3
  injection e1 with e1
  injection e1 with e1
  subst e1;subst e3;unfold Blk;rw[h3]
  congr 2
  apply Array.toList_inj.1
  rw[←h7,List.take_of_length_le (by simp;omega)]
theorem zfp {w:World}{ops:Array Oper}{rest:List Oper}{o:Oper}{a:Act}{Q:Exit→Act→World→Prop}
  (hg:o.guard=none) (l c:Operand) (t:TypeId) (hop:o.op=Op.makeSlice t l c) (e:TypeId) (z:Value) (bytes:Nat) (h1:Tryz.prog.underlying t=some (.slice e)) (hinf:(Tryz.prog.info? e).map (fun i=>(i.zero,i.size,i.bytes))=some (some z,1,bytes)) (hz:z.cells=#[z])
  (n:Nat) (hl:a.eval l=.int .i64 (n:Int)) (hc:a.eval c=.int .i64 (n:Int)) (b2:bytes*n≤281474976710656) (b3:n≤1000000000)
  (hK:∀w',Blk w' w.heap.size (List.replicate n z) e→Below w.heap.size w w'→wpList Tryz.prog ops Q rest (a.put o.dst (.slice (some ⟨w.heap.size,0,none⟩) n n)) w') :
  wpList Tryz.prog ops Q (o :: rest) a w:=by
 obtain⟨i0,hi,hz0,hz1,hz2⟩:=info_parts hinf;refine wpList_make_full w hg l c t hop w.heap.size e i0 z 1 h1 hi hz0 hz1 .i64 .i64 n n n hl hc rfl rfl (by rw[hz2];exact b2) (by unfold maxLen;omega) (Nat.le_refl _) ?_
 intro w' ho hgr;refine hK w' ?_ (zb4 (Below.refl _ _) hgr (fun k hk=>by cases hk));have:=zp2 ho;rw[hz,Nat.mul_one,toList_madeCells_one] at this;exact this
theorem WroteB.gb {w w':World}{B:Nat}{c:List Value}{t:TypeId}(h:WroteB w w' B c t):w.grownBy w' (some B):=by
 have hb:=h.below (Nat.le_refl B) (Below.refl B w);exact⟨hb.os,hb.tape,hb.output,Nat.le_of_eq h.size.symm,fun k _ hne=>h.other k (fun e=>hne (by rw[e]))⟩
theorem Blk.gb {w w':World}{B:Nat}{c:List Value}{t:TypeId}{r:Option Nat}(h:Blk w B c t)(hg:w.grownBy w' r)(hne:some B≠r):Blk w' B c t:=by
 unfold Blk;rw[hg.block B h.lt hne];exact h
def bvL (m:Nat→Bool)(n:Nat):List Value:=(List.range n).map fun i=>.bool (m i)
theorem zec (a:Nat→Bool)(n:Nat):(bvL a n).length=n:=by simp[bvL]
theorem zea (a:Nat→Bool){n i:Nat}(h:i<n):(bvL a n)[i]?=some (.bool (a i)):=by simp[bvL,h]
def updB (a:Nat→Bool)(k:Nat):Nat→Bool:=fun i=>if i=k then true else a i
theorem zwg (a:Nat→Bool)(n k:Nat):(bvL a n).set k (.bool true)=bvL (updB a k) n:=by
 apply List.ext_getElem?
 intro i;rw[List.getElem?_set];by_cases e:k=i
 ·subst e;rw[if_pos rfl];by_cases h:k<n
  ·rw[zec,if_pos h,zea _ h];simp[updB]
  ·rw[zec,if_neg h,List.getElem?_eq_none (by rw[zec];omega)]
 ·rw[if_neg e];by_cases h:i<n
  ·rw[zea _ h,zea _ h];simp[updB,show ¬i=k from fun h=>e h.symm]
  ·rw[List.getElem?_eq_none (by rw[zec];omega),List.getElem?_eq_none (by rw[zec];omega)]
theorem zwd (n:Nat):List.replicate n (Value.bool false)=bvL (fun _=>false) n:=by
 apply List.ext_getElem?
 intro i;by_cases h:i<n
 ·rw[zea _ h,List.getElem?_replicate,if_pos h]
 ·rw[List.getElem?_eq_none (by simp;omega),List.getElem?_eq_none (by rw[zec];omega)]
def trM (m:Nat→Bool)(n:Nat):List Int:=((List.range n).filter m).map fun q:Nat=>(q:Int)
theorem zu1 (m:Nat→Bool)(n:Nat):trM m (n+1)=trM m n++(if m n=true then [(n:Int)] else []):=by
 unfold trM;rw[List.range_succ,List.filter_append,List.map_append];cases h:m n <;> simp[h]
theorem zkt (m:Nat→Bool)(n:Nat):(trM m n).length≤n:=by
 unfold trM;rw[List.length_map];exact Nat.le_trans (List.length_filter_le _ _) (by simp)
theorem zv8 (n:Nat)(P:Nat→Prop):(Fl.lst n P).length≤n:=by
 unfold Fl.lst;exact Nat.le_trans (List.length_filter_le _ _) (by simp)
theorem zps {n:Nat}{P:Nat→Prop}(hn:n≤100000):(∀a ∈ (Fl.lst n P).map (fun q:Nat=>(q:Int)),I64 a)∧((Fl.lst n P).map (fun q:Nat=>(q:Int))).length≤9223372036854775807:=by
 refine⟨fun a ha=>?_,?_⟩
 ·obtain⟨q,rfl,hq,_⟩:=zi2.1 ha;exact⟨by omega,by omega⟩
 ·rw[List.length_map];have:=zv8 n P;omega
theorem zfb {f:Cf}{g:Rw Bool}{p:Nat}{a:Int}:a ∈ f.ws g p↔∃q:Nat,a=q∧f.way g p q:=by
 unfold Cf.ws Cf.wsH;rw[zi2]
 constructor
 ·rintro ⟨q,e,_,k⟩;exact⟨q,e,k⟩
 ·rintro ⟨q,e,k⟩;exact⟨q,e,k.1,k⟩
def Cf.wy (f:Cf)(g:Rw Bool)(p q:Nat):Prop:=p<f.cd.len∧f.way g p q
noncomputable def Cf.wsI (f:Cf) (g:Rw Bool) (a:Int):List Int:=if f.pl a=true then f.ws g a.toNat else []
def Cf.lvI (f:Cf)(g:Rw Bool)(a:Int):Bool:=f.pl a&&f.lv g a.toNat
def Cf.wit (f:Cf)(g:Rw Bool)(x:Rn)(a:Int):Prop:=∀b ∈ f.wsI g a,b=x.join∨b ∈ x.ps.ls
noncomputable def Cf.hold (f:Cf) (g:Rw Bool) (x:Rn):Int:=open Classical in
 if f.pl x.at_=false∨(x.join≠-1∧f.pl x.join=false) then -1
 else if ¬f.wit g x x.at_ then 1
 else if ∃i,i<x.ps.len∧¬f.wit g x (x.ps.x i) then 2
 else if x.join=-1 then 0
 else if f.lvI g x.at_=true∨∃i,i<x.ps.len∧f.lvI g (x.ps.x i)=true then 3 else 0
theorem Oi.read {w:World}{base n:Nat}{v:Value}{P:Nat→Prop}(h:Oi w base v ((Fl.lst n P).map fun q:Nat=>(q:Int)))(hn:n≤100000):∃r:Rw Int,v=.slice r.ao r.len r.cap∧NmAt w r∧r.ls=(Fl.lst n P).map (fun q:Nat=>(q:Int))∧base≤r.b:=by
 have hs:=zps (n:=n) (P:=P) hn;obtain⟨r,h1,h2,h3,_,h5⟩:=h.rw hs.1 hs.2;exact⟨r,h1,h2,h3,h5⟩
theorem Oi.readW {w:World}{base:Nat}{v:Value}{f:Cf}{g:Rw Bool}{p:Nat}(h:Oi w base v (f.ws g p))(hn:f.cd.len≤100000):∃s:Rw Int,v=.slice s.ao s.len s.cap∧NmAt w s∧s.ls=f.ws g p:=by
 unfold Cf.ws Cf.wsH at *;obtain⟨s,h1,h2,h3,_⟩:=h.read hn;exact⟨s,h1,h2,h3⟩
theorem zsj {f:Cf}{g:Rw Bool}{p:Nat}(hp:p<f.cd.len):f.wsI g p=f.ws g p:=by
 unfold Cf.wsI;rw[if_pos (Cf.pl_iff.2 ⟨by omega,by omega⟩),Int.toNat_natCast]
theorem zhz {f:Cf}{g:Rw Bool}{p:Nat}(hp:p<f.cd.len):f.lvI g p=f.lv g p:=by
 unfold Cf.lvI;rw[Cf.pl_iff.2 ⟨by omega,by omega⟩,Int.toNat_natCast];rfl
theorem zsp {f:Cf}{g:Rw Bool}{x:Rn}{p:Nat}(hp:p<f.cd.len):f.wit g x p↔∀q:Nat,f.wy g p q→(q:Int)=x.join∨(q:Int) ∈ x.ps.ls:=by
 unfold Cf.wit;rw[zsj hp]
 constructor
 ·intro h q hq;exact h q (zfb.2 ⟨q,rfl,hq.2⟩)
 ·intro h b hb;obtain⟨q,rfl,hq⟩:=zfb.1 hb;exact h q ⟨hp,hq⟩
end
end Go.Proofs.YtfobijdkoeifjaaGreatDoor
