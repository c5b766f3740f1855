import Derived.Test.YtgioppfoceddfaaGreatP23
import Derived.Test.YtgioppfoceddfaaGreatP26
import Derived.Test.YtgioppfoceddfaaGreatP12
set_option maxRecDepth 100000
set_option maxHeartbeats 32000000
namespace Go.Proofs.YtgioppfoceddfaaGreat
section
open Go Go.RowKit
def hldB (n:Strs)(g:Grid)(many:Int)(f:Fc):Bool:=((zcf n g f&&decide (f.body.cnt 1 0≤4096))&&f.body.shp n g many f.slots.len)&&((f.out==-1)||slotsB f.slots.len [f.out])
theorem zrm (n:Strs)(g:Grid)(many:Int)(f:Fc)(w:World)(hn:n.At w)(hg:g.At w)(hf:f.At w)(hcl:f.caps.len≤1000000):Calls Tryz.prog 19 #[.agg (shV n g many f).toArray] w fun e w'=>e=.returned (.bool (hldB n g many f))∧Below w.heap.size w w':=by
 have B0:=zac w (.cells (shV n g many f).toArray 55);have HI:=hid (show Below w.heap.size w (w.alloc (.cells (shV n g many f).toArray 55))∧Blk (w.alloc (.cells (shV n g many f).toArray 55)) w.heap.size (shV n g many f) 55 from ⟨B0,Blk.new w _ _⟩);have HH:=hid (show n.At w∧g.At w∧f.At w∧f.caps.len≤1000000 from ⟨hn,hg,hf,hcl⟩);obtain⟨R,hR⟩:∃R,R=hldB n g many f:=⟨_,rfl⟩;rw[←hR];have HR:=hid hR;clear hn hg hf hcl B0 hR;go_enter Tryz.func19,Tryz.ntmps19
 go_upto_region 1 with fail
 generalize (w.alloc (.cells (shV n g many f).toArray 55))=w1 at *;have bH:=HI.out.2;have hT:=zs1 n g many f w1 (HH.out.1.kept HI.out.1) (HH.out.2.1.kept HI.out.1) (HH.out.2.2.1.kept HI.out.1) HH.out.2.2.2;go_wp2_with (refine wpList_load_mid rfl 55 (.tmp 1) rfl w.heap.size 0 (by kernel_rfl) (shV n g many f) _ bH.range Tryz.underlying55 rfl (by kernel_rfl) ?_)
 refine Calls.mono hT ?_;rintro _ w2 ⟨rfl,hb2⟩;have HI2:=hid (show Below w.heap.size w w2∧Blk w2 w.heap.size (shV n g many f) 55 from ⟨Below.next HI.out.1 hb2,HI.out.2.kept hb2⟩);clear hT bH hb2 HI;cases q1:zcf n g f
 ·have HF:Hid (R=false):=by show _=_;rw[HR.out];unfold hldB;rw[q1];rfl
  go_wp2;go_ret;exact⟨zab HF.out.symm,HI2.out.1⟩
 have c17:=HI2.out.2.cell 17 (v:=.slice f.body.ao f.body.len f.body.cap) rfl;have hC:=zp6 f.body w2 (HH.out.2.2.1.body.kept HI2.out.1);go_wp2_with fail
 refine Calls.mono hC ?_;rintro _ w3 ⟨rfl,hb3⟩;have HI3:=hid (show Below w.heap.size w w3∧Blk w3 w.heap.size (shV n g many f) 55 from ⟨Below.next HI2.out.1 hb3,HI2.out.2.kept hb3⟩);clear hC c17 hb3 HI2;by_cases q2:f.body.cnt 1 0≤4096
 ·have d2:decide (((f.body.cnt 1 0:Nat):Int)≤4096)=true:=by simp;omega
  have bH:=HI3.out.2;have c17:=HI3.out.2.cell 17 (v:=.slice f.body.ao f.body.len f.body.cap) rfl;have hN:=ztj n g many f f.body w3 (HH.out.1.kept HI3.out.1) (HH.out.2.1.kept HI3.out.1) (HH.out.2.2.1.body.kept HI3.out.1);have HE:Hid (R=(f.body.shp n g many f.slots.len&&((f.out==-1)||slotsB f.slots.len [f.out]))):=by show _=_;rw[HR.out];unfold hldB;rw[q1,decide_eq_true q2];rfl
  clear q1 q2;generalize f.body.cnt 1 0=cc at *;go_wp2_with (refine za0 (by kernel_rfl) 55 (.tmp 1) rfl w.heap.size 0 (by kernel_rfl) (shV n g many f) _ bH.range Tryz.underlying55 rfl (by kernel_rfl) ?_)
  refine Calls.mono hN ?_;rintro _ w4 ⟨rfl,hb4⟩;have HI4:=hid (show Below w.heap.size w w4∧Blk w4 w.heap.size (shV n g many f) 55 from ⟨Below.next HI3.out.1 hb4,HI3.out.2.kept hb4⟩);clear hN c17 bH hb4 HI3;generalize f.body.shp n g many f.slots.len=x at *;cases x
  ·go_wp2;go_ret;exact⟨zab (by rw[HE.out];rfl),HI4.out.1⟩
  have c18:=HI4.out.2.cell 18 (v:=.int .i64 f.out) rfl;cases q3:(f.out==-1)
  ·have HF:Hid (R=slotsB f.slots.len [f.out]):=by show _=_;rw[HE.out,q3];rfl
   have bH:=HI4.out.2;have hr:=zgc f.out w4;have hb:=zac w4 (.cells #[.int .i64 f.out] 3);have hL:=IAt.blk (l:=[f.out]) (Blk.new w4 [.int .i64 f.out] 3) (by simp);have HL:=hid (zh9 n g many f [f.out] _ _ hL);have HX:=hid (Below.next HI4.out.1 hb);clear hb hL;go_wp2_with (first | (refine za0 (by kernel_rfl) 55 (.tmp 1) rfl w.heap.size 0 (by kernel_rfl) (shV n g many f) _ bH.range Tryz.underlying55 rfl (by kernel_rfl) ?_) | (refine zej (by kernel_rfl) 63 1 #[(0,.tmp 28)] rfl #[(0,.int .i64 f.out)] (by kernel_rfl) hr ?_))
   refine Calls.mono HL.out ?_;rintro _ w5 ⟨rfl,hb5⟩;clear HL hr bH c18;rw[←HF.out];go_wp2;go_ret;exact⟨rfl,Below.next HX.out hb5⟩
  ·go_wp2;go_ret;exact⟨zab (by rw[HE.out,q3];rfl),HI4.out.1⟩
 ·have d2:decide (((f.body.cnt 1 0:Nat):Int)≤4096)=false:=by simp;omega
  have HF:Hid (R=false):=by show _=_;rw[HR.out];unfold hldB;rw[q1,decide_eq_false q2];rfl
  clear q1 q2;generalize f.body.cnt 1 0=cc at *;go_wp2;go_ret;exact⟨zab HF.out.symm,HI3.out.1⟩
def shdB (n:Strs)(g:Grid)(l:Fl):Bool:=(!(l.len==0)&&decide (l.len≤60))&&decide (∀i,i<l.len→hldB n g l.len (l.ps i)=true)
theorem zm1 (n:Strs)(g:Grid)(m:Int)(f:Fc)(w:World):(Instr.build 55 #[(0,.agg #[.slice n.ao n.len n.cap,.slice g.ao g.len g.cap]),(1,.int .i64 m),(2,.agg f.vs.toArray)]).run Tryz.prog w=.ok (.agg (shV n g m f).toArray) w:=by kernel_rfl
theorem zj5 (n:Strs)(g:Grid)(l:Fl)(w:World)(hn:n.At w)(hg:g.At w)(hl:l.At w)(hcl:∀i,i<l.len→(l.ps i).caps.len≤1000000):Calls Tryz.prog 9 #[.agg #[.slice n.ao n.len n.cap,.slice g.ao g.len g.cap],.slice l.ao l.len l.cap] w fun e w'=>e=.returned (.bool (shdB n g l))∧Below w.heap.size w w':=by
 have B0:=zac w (.cells #[.slice n.ao n.len n.cap,.slice g.ao g.len g.cap] 25);have HI:=hid (show Below w.heap.size w (w.alloc (.cells #[.slice n.ao n.len n.cap,.slice g.ao g.len g.cap] 25))∧Blk (w.alloc (.cells #[.slice n.ao n.len n.cap,.slice g.ao g.len g.cap] 25)) w.heap.size [.slice n.ao n.len n.cap,.slice g.ao g.len g.cap] 25 from ⟨B0,Blk.new w _ _⟩);have HH:=hid (show n.At w∧g.At w∧l.At w∧(∀i,i<l.len→(l.ps i).caps.len≤1000000) from ⟨hn,hg,hl,hcl⟩);have hnil:0<l.len→l.ao=some ⟨l.b,l.o,none⟩:=hl.nil;have hbd:l.len≤9223372036854775807:=hl.bound;have HG:Hid (shdB n g l=((!(l.len==0)&&decide (l.len≤60))&&decide (∀i,i<l.len→hldB n g l.len (l.ps i)=true))):=by show _=_;rfl
 clear hn hg hl hcl B0;generalize shdB n g l=R at *;generalize hlen:l.len=len at *;have HL:Hid (l.len=len):=hlen;clear hlen;generalize l.ao=ao at *;generalize l.cap=cap at *;go_enter Tryz.func9,Tryz.ntmps9
 go_upto_region 1 with fail
 generalize (w.alloc (.cells #[.slice n.ao n.len n.cap,.slice g.ao g.len g.cap] 25))=w1 at *;by_cases h0:len=0
 ·have d0:((len:Int)==0)=true:=by simp;omega
  have HF:Hid (R=false):=by show _=_;rw[HG.out,h0];rfl
  clear h0;go_wp2;go_ret;exact⟨zab HF.out.symm,HI.out.1⟩
 have d0:((len:Int)==0)=false:=by simp;omega
 by_cases h60:60<len
 ·have d6:decide ((60:Int)<len)=true:=by simp;omega
  have HF:Hid (R=false):=by show _=_;rw[HG.out,decide_eq_false (p:=len≤60) (by omega)];simp
  go_wp2;go_ret;exact⟨zab HF.out.symm,HI.out.1⟩
 have d6:decide ((60:Int)<len)=false:=by simp;omega
 have HF:Hid (R=decide (∀i,i<len→hldB n g len (l.ps i)=true)):=by show _=_;rw[HG.out,decide_eq_true (p:=len≤60) (by omega),show (len==0)=false by simp;omega];rfl
 clear HG h0 h60;go_wp2;go_loopw [17] (fun i wr=>∃(k:Nat),k≤len∧i=.int .i64 k∧(∀i,i<k→hldB n g len (l.ps i)=true)∧Below w.heap.size w wr∧Blk wr w.heap.size [.slice n.ao n.len n.cap,.slice g.ao g.len g.cap] 25) (fun i _=>len - (intOf i).toNat)
 case atStart=>exact⟨0,Nat.zero_le _,rfl,fun i hi=>absurd hi (Nat.not_lt_zero _),HI.out⟩
 case round =>
  clear HI;obtain⟨k,hk,rfl,hall,hB⟩:=hrel;have HA:=hid hall;have HI:=hid hB;clear hall hB;by_cases hlt:k<len
  ·have ij:(k:Int)<len:=by omega
   have a0:=hnil (by omega);subst a0;have hlt':k<l.len:=by rw[HL.out];exact hlt
   have rN:wr.rangeAt l.b (l.o+k*16) (l.ps k).vs:=(HH.out.2.2.1.kept HI.out.1).cells k hlt';have HN0:=hid (show (l.ps k).At w∧(l.ps k).caps.len≤1000000 from ⟨HH.out.2.2.1.part k hlt',HH.out.2.2.2 k hlt⟩);have HAs:Hid (∀x,x=hldB n g len (l.ps k)→(x=true→∀i,i<k+1→hldB n g len (l.ps i)=true)∧(x=false→R=false)):=by
    intro x hx;refine⟨fun h1 i hi=>?_,fun h1=>?_⟩
    ·rcases Nat.lt_or_ge i k with h2 | h2
     ·exact HA.out i h2
     ·have:i=k:=by omega
      subst this;rw[←hx];exact h1
    ·rw[HF.out,decide_eq_false_iff_not];intro hh;have:=hh k hlt;rw[←hx,h1] at this;cases this
   clear hlt';generalize l.ps k=f at *;have hN:=zac wr (.cells f.vs.toArray 41);have HB:=hid (show Below w.heap.size w (wr.alloc (.cells f.vs.toArray 41))∧Blk (wr.alloc (.cells f.vs.toArray 41)) w.heap.size [.slice n.ao n.len n.cap,.slice g.ao g.len g.cap] 25∧Blk (wr.alloc (.cells f.vs.toArray 41)) wr.heap.size f.vs 41 from ⟨Below.next HI.out.1 hN,HI.out.2.kept hN,Blk.new wr _ _⟩);clear HI hN;go_upto_region 6 with (first | (refine wpList_load_mid rfl 41 (.tmp 19) rfl l.b (l.o+k*16) (by kernel_rfl) f.vs _ rN Tryz.underlying41 rfl (by kernel_rfl) ?_) | (refine zao rfl rfl 41 rfl (.tmp 6) (.tmp 20) rfl zFv (zf5 _) rfl f.vs.toArray (by kernel_rfl) (by kernel_rfl) rfl (by kernel_rfl) (by simpa using f.va_one) ?_))
   clear rN;generalize (wr.alloc (.cells f.vs.toArray 41))=w2 at *;generalize wr.heap.size=BN at *;have e0:=HB.out.2.1.cell 0 rfl;have e1:=HB.out.2.1.cell 1 rfl;have b6:=HB.out.2.2;have hW:=zrm n g len f w2 (HH.out.1.kept HB.out.1) (HH.out.2.1.kept HB.out.1) (HN0.out.1.kept HB.out.1) HN0.out.2;go_wp2_with (first | (refine wpList_load_mid rfl 41 (.tmp 6) rfl BN 0 (by kernel_rfl) f.vs _ b6.range Tryz.underlying41 rfl (by kernel_rfl) ?_) | (refine zbn rfl 55 #[(0,.tmp 21),(1,.tmp 23),(2,.tmp 24)] rfl _ (by kernel_rfl) (zm1 n g len f _) ?_))
   refine Calls.mono hW ?_;rintro _ w3 ⟨rfl,hb3⟩;have HI:=hid (show Below w.heap.size w w3∧Blk w3 w.heap.size [.slice n.ao n.len n.cap,.slice g.ao g.len g.cap] 25 from ⟨Below.next HB.out.1 hb3,HB.out.2.1.kept hb3⟩);have hAs:=HAs.out _ rfl;have HAS:=hid hAs;clear hAs HAs hW b6 e0 e1 hb3 HB;generalize hldB n g len f=xx at *;cases xx
   ·go_wp2;go_ret;exact⟨zab (HAS.out.2 (by simp)).symm,HI.out.1⟩
   ·go_wp2;go_roundw
    case rel=>exact⟨k+1,by omega,by go_num,HAS.out.1 (by simp),HI.out.1,HI.out.2⟩
    case measure=>simp[intOf];omega
  ·have e2:k=len:=by omega
   subst e2;have d:¬(k:Int)<k:=by omega
   go_wp2;go_ret;exact⟨zab (by rw[HF.out];symm;rw[decide_eq_true_eq];exact HA.out),HI.out.1⟩
def jdg (n:Strs)(g:Grid)(l:Fl)(i:Nat):Jd:=⟨n,g,botI n g,l,l.ps i⟩
def ChkR (n:Strs)(g:Grid)(l:Fl)(a b:Int):Prop :=
 (shdB n g l=false∧a=-1∧b=9)∨(shdB n g l=true∧∃k,k<l.len∧(∀i,i<k→(jdg n g l i).right=true)∧(jdg n g l k).right=false∧a=k∧b=11)∨(shdB n g l=true∧(∀i,i<l.len→(jdg n g l i).right=true)∧a=0∧b=0)
theorem znk (n:Strs)(g:Grid)(bt:Int)(l:Fl)(f:Fc)(w:World):(Instr.build 48 #[(0,.agg #[.slice n.ao n.len n.cap,.slice g.ao g.len g.cap]),(1,.int .i64 bt),(2,.slice l.ao l.len l.cap),(3,.agg f.vs.toArray)]).run Tryz.prog w=.ok (.agg (⟨n,g,bt,l,f⟩:Jd).vs.toArray) w:=by kernel_rfl
theorem zf6 {n:Strs}{g:Grid}{l:Fl}(h:shdB n g l=true){i:Nat}(hi:i<l.len):hldB n g l.len (l.ps i)=true:=by
 unfold shdB at h;simp only[Bool.and_eq_true,decide_eq_true_eq] at h;exact h.2 i hi
theorem zd5 {n:Strs}{g:Grid}{m:Int}{f:Fc}(h:hldB n g m f=true):(zcf n g f=true∧f.body.cnt 1 0≤4096∧f.body.shp n g m f.slots.len=true)∧(f.out=-1∨(0≤f.out∧f.out<f.slots.len))∧f.slots.len≤250∧1+f.caps.len≤f.slots.len:=by
 unfold hldB at h;simp only[Bool.and_eq_true,decide_eq_true_eq,Bool.or_eq_true,beq_iff_eq] at h;refine⟨⟨h.1.1.1,h.1.1.2,h.1.2⟩,?_,?_,?_⟩
 ·rcases h.2 with h2 | h2
  ·exact Or.inl h2
  ·refine Or.inr ?_;unfold slotsB wthB at h2;simp only[List.all_cons,List.all_nil,Bool.and_true,Bool.and_eq_true,decide_eq_true_eq] at h2;exact h2
 ·have h1:=h.1.1.1;unfold zcf typ1 at h1;simp only[Bool.and_eq_true,decide_eq_true_eq] at h1;exact h1.1.1.1.1.2
 ·have h1:=h.1.1.1;unfold zcf typ1 at h1;simp only[Bool.and_eq_true,decide_eq_true_eq] at h1;exact h1.1.1.1.2
theorem zlx (n:Strs)(g:Grid)(l:Fl)(w:World)(hn:n.At w)(hg:g.At w)(hl:l.At w)(hcl:∀i,i<l.len→(l.ps i).caps.len≤1000000)
  (hlist:shdB n g l=true→∀i,i<l.len→∀s u,Below w.heap.size w u→zbs ((jdg n g l i).list (l.ps i).body s) (jdg n g l i) (l.ps i).body s u) :
  Calls Tryz.prog 6 #[.agg #[.slice n.ao n.len n.cap,.slice g.ao g.len g.cap],.slice l.ao l.len l.cap] w fun e w'=>∃a b:Int,e=.returned (.tuple #[.int .i64 a,.int .i64 b])∧ChkR n g l a b∧Below w.heap.size w w':=by
 have B0:=zac w (.cells #[.slice n.ao n.len n.cap,.slice g.ao g.len g.cap] 25);have HI:=hid (show Below w.heap.size w (w.alloc (.cells #[.slice n.ao n.len n.cap,.slice g.ao g.len g.cap] 25))∧Blk (w.alloc (.cells #[.slice n.ao n.len n.cap,.slice g.ao g.len g.cap] 25)) w.heap.size [.slice n.ao n.len n.cap,.slice g.ao g.len g.cap] 25 from ⟨B0,Blk.new w _ _⟩);have HH:=hid (show n.At w∧g.At w∧l.At w∧(∀i,i<l.len→(l.ps i).caps.len≤1000000)∧(shdB n g l=true→∀i,i<l.len→∀s u,Below w.heap.size w u→zbs ((jdg n g l i).list (l.ps i).body s) (jdg n g l i) (l.ps i).body s u) from ⟨hn,hg,hl,hcl,hlist⟩);have hnil:0<l.len→l.ao=some ⟨l.b,l.o,none⟩:=hl.nil;have hbd:l.len≤9223372036854775807:=hl.bound;clear hn hg hl hcl hlist B0;go_enter Tryz.func6,Tryz.ntmps6
 go_upto_region 1 with fail
 generalize (w.alloc (.cells #[.slice n.ao n.len n.cap,.slice g.ao g.len g.cap] 25))=w1 at *;have e0:=HI.out.2.cell 0 rfl;have e1:=HI.out.2.cell 1 rfl;have hS:=zj5 n g l w1 (HH.out.1.kept HI.out.1) (HH.out.2.1.kept HI.out.1) (HH.out.2.2.1.kept HI.out.1) HH.out.2.2.2.1;go_wp2_with fail
 refine Calls.mono hS ?_;rintro _ w2 ⟨rfl,hb2⟩;have HI2:=hid (show Below w.heap.size w w2∧Blk w2 w.heap.size [.slice n.ao n.len n.cap,.slice g.ao g.len g.cap] 25 from ⟨Below.next HI.out.1 hb2,HI.out.2.kept hb2⟩);clear hS e0 e1 hb2 HI;cases hs:shdB n g l
 ·have HS:=hid hs;clear hs;go_wp2;exact bodyPost_ret (v:=.tuple #[.int .i64 (-1),.int .i64 9]) (by simp[results,Tryz.results6,go_sem]) rfl ⟨-1,9,rfl,Or.inl ⟨HS.out,rfl,rfl⟩,HI2.out.1⟩
 have HS:=hid hs;clear hs;generalize hlen:l.len=len at *;have HL:Hid (l.len=len):=hlen;clear hlen;generalize hao:l.ao=ao at *;have HAO:Hid (l.ao=ao):=hao;clear hao;generalize hcap:l.cap=cap at *;have HCP:Hid (l.cap=cap):=hcap;clear hcap;go_wp2;go_loopw [14] (fun i wr=>∃(k:Nat),k≤len∧i=.int .i64 k∧(∀i,i<k→(jdg n g l i).right=true)∧Below w.heap.size w wr∧Blk wr w.heap.size [.slice n.ao n.len n.cap,.slice g.ao g.len g.cap] 25) (fun i _=>len - (intOf i).toNat)
 case atStart=>exact⟨0,Nat.zero_le _,rfl,fun i hi=>absurd hi (Nat.not_lt_zero _),HI2.out⟩
 case round =>
  clear HI2;obtain⟨k,hk,rfl,hall,hB⟩:=hrel;have HA:=hid hall;have HI:=hid hB;clear hall hB;by_cases hlt:k<len
  ·have ij:(k:Int)<len:=by omega
   have a0:=hnil (by omega);subst a0;have hlt':k<l.len:=by rw[HL.out];exact hlt
   have rN:wr.rangeAt l.b (l.o+k*16) (l.ps k).vs:=(HH.out.2.2.1.kept HI.out.1).cells k hlt';have hld:=zd5 (zf6 HS.out hlt');have HR:=hid (show ∀u,Below w.heap.size w u→Calls Tryz.prog 16 #[.agg (jdg n g l k).vs.toArray] u fun e w'=>e=.returned (.bool (jdg n g l k).right)∧Below u.heap.size u w' from fun u hu=>zsw (jdg n g l k) u ⟨HH.out.1.kept hu,HH.out.2.1.kept hu,HH.out.2.2.1.kept hu,(HH.out.2.2.1.part k hlt').kept hu⟩ hld.2.1 hld.2.2.1 hld.2.2.2 (fun s u' hu'=>HH.out.2.2.2.2 HS.out k hlt s u' (Below.next hu hu')));have hbJ:=znk n g (botI n g) l (l.ps k);rw[HAO.out,HL.out,HCP.out] at hbJ;have HAs:Hid (∀x,x=(jdg n g l k).right→(x=true→∀i,i<k+1→(jdg n g l i).right=true)∧(x=false→ChkR n g l k 11)):=by
    intro x hx;refine⟨fun h1 i hi=>?_,fun h1=>?_⟩
    ·rcases Nat.lt_or_ge i k with h2 | h2
     ·exact HA.out i h2
     ·have:i=k:=by omega
      subst this;rw[←hx];exact h1
    ·exact Or.inr (Or.inl ⟨HS.out,k,hlt',HA.out,by rw[←hx];exact h1,rfl,rfl⟩)
   clear hlt' hld;have HJ:Hid ((⟨n,g,botI n g,l,l.ps k⟩:Jd)=jdg n g l k):=by show _=_;rfl
   rw[HJ.out] at hbJ;clear HJ;generalize jdg n g l k=jj at *;generalize l.ps k=f at *;have bZ1:Blk (wr.alloc (.cells #[.int .i64 0,.int .i64 0,.slice none 0 0,.int .i64 0,.int .i64 0,.int .i64 0,.int .i64 0,.slice none 0 0,.int .i64 0,.int .i64 0,.slice none 0 0,.int .i64 0,.int .i64 0,.slice none 0 0,.slice none 0 0,.int .i64 0] 41)) wr.heap.size zFv 41:=Blk.new wr _ _;have hb1:=zac wr (.cells #[.int .i64 0,.int .i64 0,.slice none 0 0,.int .i64 0,.int .i64 0,.int .i64 0,.int .i64 0,.slice none 0 0,.int .i64 0,.int .i64 0,.slice none 0 0,.int .i64 0,.int .i64 0,.slice none 0 0,.slice none 0 0,.int .i64 0] 41);go_upto_region 6 with (first | (refine wpList_load_mid rfl 41 (.tmp 17) rfl l.b (l.o+k*16) (by kernel_rfl) f.vs _ rN Tryz.underlying41 rfl (by kernel_rfl) ?_) | (refine zae rfl rfl 41 (.tmp 7) (.tmp 18) rfl wr.heap.size f.vs (by kernel_rfl) (by kernel_rfl) f.va_one bZ1 rfl (by kernel_rfl) ?_;intro w3 W3))
   have HB:=hid (show Below w.heap.size w w3∧Blk w3 w.heap.size [.slice n.ao n.len n.cap,.slice g.ao g.len g.cap] 25∧Blk w3 wr.heap.size f.vs 41 from ⟨Below.next HI.out.1 (W3.below (Nat.le_refl _) hb1),W3.keep (HI.out.2.kept hb1) (by have:=HI.out.2.lt;omega),W3.blk⟩)
   clear rN bZ1 hb1 W3 HI;generalize wr.heap.size=BN at *;have hCF:∀q,(∃x:Gr w3,q=x.w)→q.rangeAt BN 0 f.vs:=by rintro _ ⟨x,rfl⟩;exact (HB.out.2.2.kept x.bl).range
   have p0:∀x:Gr w3,x.w.cell? ⟨w.heap.size,0,none⟩=some (.slice n.ao n.len n.cap):=fun x=>(HB.out.2.1.kept x.bl).cell 0 rfl;have p1:∀x:Gr w3,x.w.cell? ⟨w.heap.size,1,none⟩=some (.slice g.ao g.len g.cap):=fun x=>(HB.out.2.1.kept x.bl).cell 1 rfl;have HBt:∀x:Gr w3,Calls Tryz.prog 15 #[.agg #[.slice n.ao n.len n.cap,.slice g.ao g.len g.cap]] x.w fun e w'=>e=.returned (.int .i64 (botI n g))∧Below x.w.heap.size x.w w':=fun x=>zj6 n g x.w ((HH.out.1.kept HB.out.1).kept x.bl) ((HH.out.2.1.kept HB.out.1).kept x.bl);have hNE:Nonempty (Gr w3):=⟨⟨_,Below.refl _ _⟩⟩;refine zah 5 (by kernel_rfl) (by kernel_rfl) ?_;simp only[List.take,List.drop];iterate 2 go_big_quiet_step (fail)
   go_big_quiet_step ((go_at_call 15;exact Calls.gr _ (HBt _)))
   go_big_quiet_step (fail)
   go_big_quiet_want;refine zaa 41 (.tmp 7) rfl _ 0 (by kernel_rfl) f.vs _ hCF Tryz.underlying41 rfl (by kernel_rfl) ?_;simp only[Act.put,zA,zB,zC];go_big_quiet_on;refine wpQuiet_nil ?_;rintro w4 ⟨x4,rfl⟩;have B5:=x4.bl;generalize x4.w=w4 at B5 ⊢;have HB4:=hid (show Below w.heap.size w w4∧Blk w4 w.heap.size [.slice n.ao n.len n.cap,.slice g.ao g.len g.cap] 25 from ⟨Below.next HB.out.1 B5,HB.out.2.1.kept B5⟩);have hR:=HR.out w4 HB4.out.1;clear x4 B5 p0 p1 HBt hNE hCF HB HR;generalize botI n g=bt at *;go_wp2_with (refine zbn rfl 48 #[(0,.tmp 19),(1,.tmp 21),(2,.tmp 22),(3,.tmp 23)] rfl _ (by kernel_rfl) (hbJ _) ?_)
   refine Calls.mono hR ?_;rintro _ w5 ⟨rfl,hb5⟩;have HI:=hid (show Below w.heap.size w w5∧Blk w5 w.heap.size [.slice n.ao n.len n.cap,.slice g.ao g.len g.cap] 25 from ⟨Below.next HB4.out.1 hb5,HB4.out.2.kept hb5⟩);have hAs:=HAs.out _ rfl;have HAS:=hid hAs;clear hAs HAs hR hb5 HB4 hbJ;generalize jj.right=xx at *;cases xx
   ·go_wp2;exact bodyPost_ret (v:=.tuple #[.int .i64 (k),.int .i64 11]) (by simp[results,Tryz.results6,go_sem]) rfl ⟨k,11,rfl,HAS.out.2 (by simp),HI.out.1⟩
   ·go_wp2;go_roundw
    case rel=>exact⟨k+1,by omega,by go_num,HAS.out.1 (by simp),HI.out.1,HI.out.2⟩
    case measure=>simp[intOf];omega
  ·have e2:k=len:=by omega
   subst e2;have d:¬(k:Int)<k:=by omega
   go_wp2;exact bodyPost_ret (v:=.tuple #[.int .i64 (0),.int .i64 0]) (by simp[results,Tryz.results6,go_sem]) rfl ⟨0,0,rfl,Or.inr (Or.inr ⟨HS.out,fun i hi=>HA.out i (by rw[HL.out] at hi;exact hi),rfl,rfl⟩),HI.out.1⟩
theorem run_mk {w:World}{j:Jd}:∀{nd:Nd} (_:nd.At w) (s:Sta),¬(nd.h.op=14∨nd.h.op=15∨nd.h.op=16∨nd.h.op=17∨nd.h.op=18)→nd.run j s=if j.pre nd s=false then none else j.make nd s
 | .dm,h,_,_=>h.elim
 | .mk h _ _ _ _ _ _ _ _ _ _ _ _,_,s,ho=>by
  simp only[not_or] at ho;unfold Nd.run;have h1:¬h.op=14:=ho.1;have h2:¬h.op=15:=ho.2.1;have h3:¬h.op=16:=ho.2.2.1;have h4:¬h.op=17:=ho.2.2.2.1;have h5:¬h.op=18:=ho.2.2.2.2;simp only[if_neg h1,if_neg h2,if_neg h3,if_neg h4,if_neg h5]
theorem run_15 {w:World}{j:Jd}:∀{nd:Nd} (_:nd.At w) (s:Sta),nd.h.op=15→nd.run j s=if j.pre nd s=false then none else (if j.tells nd=true then some s else none)
 | .dm,h,_,_=>h.elim
 | .mk h _ _ _ _ _ _ _ _ _ _ _ _,_,s,ho=>by
  unfold Nd.run;have h1:¬h.op=14:=by have:h.op=15:=ho;omega
  have h2:h.op=15:=ho;simp only[if_neg h1,if_pos h2]
theorem zbg {m:Nat}{l:List Int}(h:slotsB m l=true){x:Int}(hx:x ∈ l):0≤x∧x<m:=by
 unfold slotsB at h;rw[List.all_eq_true] at h;have:=h x hx;unfold wthB at this
 simpa using this
theorem zfk {w:World}{n:Strs}{g:Grid}{many:Int}{m:Nat}{nd:Nd}(hA:nd.At w)(h:nd.shp n g many m=true):slotsB m nd.h.rds=true∧(nd.h.wrs=true→0≤nd.h.dst∧nd.h.dst<m):=by
 rw[Nd.shp_eq hA] at h;unfold shpB at h;simp only[Bool.and_eq_true,Bool.or_eq_true] at h;refine⟨h.1.1.2,fun hw=>?_⟩;rcases h.1.2 with h1 | h1
 ·rw[hw] at h1;cases h1
 ·exact zbg h1 (by simp)
theorem zis (D:Nat)(j:Jd)(k:Int)(w:World):Calls Tryz.prog 115 #[.agg j.vs.toArray,.int .i64 k] w (zbh D (leafT k j.bot) w) :=
 Calls.mono (zps j k w) fun _ _ h=>⟨leafT k j.bot,h.1,zay _ _ _,zdz _ _ _,same_refl _,h.2⟩
theorem zwc (j:Jd)(nd:Nd)(s:Sta)(w:World)(hj:j.At w)(hn:nd.At w)(hs:j.f.slots.len≤250)(n:Strs)(g:Grid)(many:Int)(hsh:nd.shp n g many j.f.slots.len=true)(hop:nd.h.op=1∨nd.h.op=3∨nd.h.op=4):zcp (j.make nd s) j nd s w:=by
 obtain⟨h1,h2⟩:=zfk hn hsh;have hw:nd.h.wrs=true:=by
  unfold Hd.wrs;rcases hop with h | h | h <;> rw[h] <;> rfl
 have hd:=h2 hw;refine zl1 0 j nd s w hj hn (by omega) hd.1 hd.2 hs (by omega) ?_ fun u hu=>?_
 ·unfold Jd.makes;rcases hop with h | h | h
  ·rw[if_pos h];exact zcm _ _
  ·rw[if_neg (by omega),if_neg (by omega),if_pos h];have ha:=zbg h1 (x:=nd.h.a) (by rw[rds1 (Or.inl h)];simp)
   exact zbf (hj.f.slots.part (i:=nd.h.a.toNat) (by omega)).nd
  ·rw[if_neg (by omega),if_neg (by omega),if_neg (by omega),if_pos h];unfold Jd.reck;split <;> exact zcm _ _
 ·rcases hop with h | h | h
  ·exact zlp 0 j nd u (hj.kept hu) (by omega) h (leafT 1 j.bot) (by unfold Jd.makes;rw[if_pos h]) (fun u' _=>zis 0 j 1 u')
  ·have ha:=zbg h1 (x:=nd.h.a) (by rw[rds1 (Or.inl h)];simp)
   exact zl4 0 j nd u (hj.kept hu) (by omega) h (j.read nd nd.h.a) (by unfold Jd.makes;rw[if_neg (by omega),if_neg (by omega),if_pos h]) (fun u' hu'=>zbk 0 j nd nd.h.a u' ((hj.kept hu).kept hu') (by omega) ha.1 ha.2)
  ·have ha:=zbg h1 (x:=nd.h.a) (by rw[rds2 (Or.inl h)];simp)
   have hb:=zbg h1 (x:=nd.h.b) (by rw[rds2 (Or.inl h)];simp)
   exact zl7 0 j nd u (hj.kept hu) (by omega) h (j.reck nd).1 (j.reck nd).2 (by unfold Jd.makes;rw[if_neg (by omega),if_neg (by omega),if_neg (by omega),if_pos h]) (fun u' hu'=>zm4 0 j nd u' ((hj.kept hu).kept hu') (by omega) ha.1 ha.2 hb.1 hb.2)
theorem zum (j:Jd)(w:World)(hj:j.At w)(hs:j.f.slots.len≤250)(n:Strs)(g:Grid)(many:Int)(hsh:j.f.body.shp n g many j.f.slots.len=true)(hop:∀i,i<j.f.body.len→(j.f.body.ps i).h.op=1∨(j.f.body.ps i).h.op=3∨(j.f.body.ps i).h.op=4∨(j.f.body.ps i).h.op=15)(s:Sta)(u:World)(hu:Below w.heap.size w u) :
  zbs (j.list j.f.body s) j j.f.body s u:=by
 have hsh':∀i,i<j.f.body.len→(j.f.body.ps i).shp n g many j.f.slots.len=true:=by
  unfold Ns.shp at hsh;exact of_decide_eq_true hsh
 have hb:j.f.body.At w:=hj.f.body;refine znv j j.f.body s u (hj.kept hu) (hb.kept hu) (fun i hi x hx=>?_) (fun i s=>if (j.f.body.ps i).h.op=15 then (if j.tells (j.f.body.ps i)=true then some s else none) else j.make (j.f.body.ps i) s) (fun i hi s=>?_) (fun i hi s q hq=>?_)
 ·have:=zbg (zfk (hb.part i hi) (hsh' i hi)).1 hx;omega
 ·by_cases h:(j.f.body.ps i).h.op=15
  ·rw[run_15 (hb.part i hi) s h,if_pos h]
  ·rw[run_mk (hb.part i hi) s (by have:=hop i hi;omega),if_neg h]
 ·have hA:=((hb.part i hi).kept hu).kept hq;by_cases h:(j.f.body.ps i).h.op=15
  ·have ha:=zbg (zfk (hb.part i hi) (hsh' i hi)).1 (x:=(j.f.body.ps i).h.a) (by rw[rds1 (by omega)];simp)
   exact zl9 j (j.f.body.ps i) s q ((hj.kept hu).kept hq) hA h (j.tells (j.f.body.ps i)) _ (by rw[if_pos h]) (fun q' hq'=>zly j (j.f.body.ps i) q' (((hj.kept hu).kept hq).kept hq') ha.1 ha.2)
  ·show zcp (if (j.f.body.ps i).h.op=15 then _ else _) _ _ _ _
   rw[if_neg h];exact zwc j (j.f.body.ps i) s q ((hj.kept hu).kept hq) hA hs n g many (hsh' i hi) (by have:=hop i hi;omega)
theorem zgj (n:Strs)(g:Grid)(l:Fl)(w:World)(hn:n.At w)(hg:g.At w)(hl:l.At w)(hcl:∀i,i<l.len→(l.ps i).caps.len≤1000000)(hop:∀k,k<l.len→∀i,i<(l.ps k).body.len→((l.ps k).body.ps i).h.op=1∨((l.ps k).body.ps i).h.op=3∨((l.ps k).body.ps i).h.op=4∨((l.ps k).body.ps i).h.op=15) :
  Calls Tryz.prog 6 #[.agg #[.slice n.ao n.len n.cap,.slice g.ao g.len g.cap],.slice l.ao l.len l.cap] w fun e w'=>∃a b:Int,e=.returned (.tuple #[.int .i64 a,.int .i64 b])∧ChkR n g l a b∧Below w.heap.size w w':=by
 refine zlx n g l w hn hg hl hcl fun hs i hi s u hu=>?_;have hp:=zd5 (zf6 hs hi);exact zum (jdg n g l i) w ⟨hn,hg,hl,hl.part i hi⟩ hp.2.2.1 n g l.len hp.1.2.2 (hop i hi) s u hu
theorem zgk (w:World):Calls Tryz.prog 11 #[] w fun e w'=>∃(n:Strs) (g:Grid),e=.returned (.agg #[.slice n.ao n.len n.cap,.slice g.ao g.len g.cap])∧Lt2 n g w'∧Below w.heap.size w w':=by
 have B0:=zac w (.cells #[.slice none 0 0,.slice none 0 0] 25);have hm:=zve (w.alloc (.cells #[.slice none 0 0,.slice none 0 0] 25));rw[alloc_size] at hm;have r0:(w.alloc (.cells #[.slice none 0 0,.slice none 0 0] 25)).cell? ⟨w.heap.size,0,none⟩=some (.slice none 0 0):=by simp
 have r1:(w.alloc (.cells #[.slice none 0 0,.slice none 0 0] 25)).cell? ⟨w.heap.size,1,none⟩=some (.slice none 0 0):=by simp
 have f0:(w.alloc (.cells #[.slice none 0 0,.slice none 0 0] 25)).frozen? ⟨w.heap.size,0,none⟩=false:=by simp
 have f1:(w.alloc (.cells #[.slice none 0 0,.slice none 0 0] 25)).frozen? ⟨w.heap.size,1,none⟩=false:=by simp
 go_enter Tryz.func11,Tryz.ntmps11
 go_wp2_with fail
 refine hm.mono ?_;rintro e w1 ⟨n,g,rfl,hL,hb1⟩;have hb1':Below (w.alloc (.cells #[.slice none 0 0,.slice none 0 0] 25)).heap.size (w.alloc (.cells #[.slice none 0 0,.slice none 0 0] 25)) w1:=by rw[alloc_size];exact hb1
 have X:=Bl.new w1 n g;have BX:=zac w1 (.cells #[.slice n.ao n.len n.cap,.slice g.ao g.len g.cap] 25);have B2:=Below.next hb1' BX;have c0:=up B2 r0;have c1:=up B2 r1;have g0:=(B2.frozen (p:=⟨w.heap.size,0,none⟩) (by rw[alloc_size];exact Nat.lt_succ_self _)).trans f0
 have g1:=(B2.frozen (p:=⟨w.heap.size,1,none⟩) (by rw[alloc_size];exact Nat.lt_succ_self _)).trans f1
 have hn2:=hL.nat.kept BX;have hg2:=hL.gat.kept BX;have HL:Hid (Lt2 n g w1):=hL;have B3:=Below.next B0 B2;clear hL hm r0 r1 f0 f1 hb1 hb1' X B2;go_wp2;have c1':((w1.alloc (.cells #[.slice n.ao n.len n.cap,.slice g.ao g.len g.cap] 25)).setCell ⟨w.heap.size,0,none⟩ (.slice n.ao n.len n.cap)).cell? ⟨w.heap.size,1,none⟩=some (.slice none 0 0):=by
  rw[World.cell?_setCell_other _ _ _ _ (by simp)];exact c1
 refine bodyPost_ret (v:=.agg #[.slice n.ao n.len n.cap,.slice g.ao g.len g.cap]) (by simp[results,Tryz.results11,go_sem,c0,c1]) rfl ⟨n,g,rfl,⟨(hn2.set c0 _).set c1' _,zio (zio hg2 c0 HL.out.rows _) c1' HL.out.rows _,HL.out.fd,HL.out.two,HL.out.le,HL.out.rows⟩,zdc B3 _ _⟩
section
variable {n:Strs} {g:Grid}
theorem zc0 {N a:Nat}(h:a<N):inR N (a:Int)=true:=by unfold inR;simp;omega
theorem zk7 (hF:zaf n g=true){a:Nat}(ha:a<n.len):Jn g a a=a:=zmq hF ha ha ⟨ha,zdv hF ha,zdv hF ha,fun _ _ h _=>h⟩
theorem jn_le (hF:zaf n g=true){a b:Nat}(ha:a<n.len)(hb:b<n.len)(h:g.B a b=true):Jn g a b=b:=by
 have:=jn_leq hF ha hb;rw[h] at this;exact (beq_iff_eq.1 this.symm)
theorem jn_ge (hF:zaf n g=true){a b:Nat}(ha:a<n.len)(hb:b<n.len)(h:g.B b a=true):Jn g a b=a:=by
 rw[zx0 hF ha hb];exact jn_le hF hb ha h
theorem zc4 (hF:zaf n g=true){a b:Nat}(ha:a<n.len)(hb:b<n.len):zad n g a b=(Jn g a b:Int):=by
 unfold zad;rw[if_neg (by omega),if_neg (by omega)];exact zd2 hF ha hb
theorem zcq (hF:zaf n g=true){a:Nat}(ha:a<n.len):zad n g a (-1)=(a:Int):=by
 unfold zad;rw[if_neg (by omega),if_pos rfl,zd2 hF ha ha,zk7 hF ha]
theorem zci (hF:zaf n g=true){a:Nat}(ha:a<n.len):zad n g (-1) a=(a:Int):=by
 unfold zad;rw[if_pos rfl,if_neg (by omega),zd2 hF ha ha,zk7 hF ha]
theorem bothI_nn:zad n g (-1) (-1)=-1:=by
 unfold zad;rw[if_pos rfl,zpo]
theorem zlj (hF:zaf n g=true){a:Nat}(ha:a<n.len):okB n g (leafT 1 a)=true:=by
 unfold okB;rw[hF,zld _ _ (zc0 ha)];rfl
theorem zq7 (hF:zaf n g=true){a b:Nat}(ha:a<n.len)(hb:b<n.len):zai n g (leafT 1 a) b=leafT 1 (Jn g a b:Nat):=by
 unfold zai;rw[zlj hF ha,zc0 hb];show leafT 1 (zau n g a b)=_
 rw[zd2 hF ha hb]
theorem zuj (hF:zaf n g=true){a b:Nat}(ha:a<n.len)(hb:b<n.len):belB n g (leafT 1 a) (leafT 1 b)=g.B a b:=by
 unfold belB;rw[hF,zld _ _ (zc0 ha),zld _ _ (zc0 hb)];show (true&&true&&(((1:Int)==1)&&g.B (Int.toNat a) (Int.toNat b)&&true))=g.B a b
 simp
theorem zuo (hF:zaf n g=true){p r h l:Nat}(hp:p<n.len)(hr:r<n.len)(hh:h<n.len)(hl:l<n.len):okB n g (mk2 4 l h (-1) (leafT 1 p) (leafT 1 r))=true:=by
 have e1:(leafT 1 p).fm n.len 2=true:=by unfold leafT;rw[fm_eq,zc0 hp];rfl
 have e2:(leafT 1 r).fm n.len 2=true:=by unfold leafT;rw[fm_eq,zc0 hr];rfl
 unfold okB Ty.ok mk2;rw[hF,fm_eq,zc0 hl];have e3:bndI n.len 4 h (-1)=true:=by unfold bndI;rw[if_pos rfl,zc0 hh];simp
 rw[e3];have e4:decide (∀i,i<2→Ty.fm n.len ((fun i=>if i=0 then leafT 1 p else leafT 1 r) i) (1+1)=true)=true:=by
  rw[decide_eq_true_eq];intro i _;show Ty.fm n.len (if i=0 then leafT 1 p else leafT 1 r) 2=true
  split
  ·exact e1
  ·exact e2
 rw[e4];rfl
end
structure Lf (j:Jd)(L:Nat→Nat)(bt:Nat):Prop where
 F:zaf j.n j.g=true
 bot:j.bot=(bt:Int)
 lt:bt<j.n.len
 low:∀c,c<j.n.len→j.g.B bt c=true
 sl:∀i,i<j.f.slots.len→j.f.slots.ps i=leafT 1 (L i:Nat)
 ll:∀i,i<j.f.slots.len→L i<j.n.len
section
variable {j:Jd} {L:Nat→Nat} {bt:Nat} {w:World} {nd:Nd}
theorem Lf.ends (h:Lf j L bt){t o rs:Nat}{x:Int}{S:Nat→Bool}(ht:t<j.n.len)(ho:o<j.f.slots.len)(hr:rs<j.n.len)(hres:j.f.result=leafT 1 (rs:Nat))(hout:j.f.out=o)(hx:x=-1∨∃m e:Nat,x=m∧m<j.n.len∧j.f.exc=e∧e<j.n.len∧j.g.B m e=true)(hS:S o=true) :
  j.ends ⟨t,x,S,false⟩=j.g.B (Jn j.g (L o) t) rs:=by
 unfold Jd.ends;have e1:((x != -1)&&!(leqB j.n j.g x j.f.exc))=false:=by
  rcases hx with rfl | ⟨m,e,rfl,hm,he,hel,hB⟩
  ·rfl
  ·rw[he,zv1 h.F hm hel,hB];simp
 show (if ((x != -1)&&!(leqB j.n j.g x j.f.exc))=true then false else if (false||j.f.out==-1)=true then (false&&j.f.out==-1) else S j.f.out.toNat&&belB j.n j.g (zai j.n j.g (j.f.slots.ps j.f.out.toNat) t) j.f.result)=_
 rw[e1,hout,Int.toNat_natCast,h.sl o ho,zq7 h.F (h.ll o ho) ht,hres,zuj h.F (zf1 h.F (h.ll o ho) ht) hr,hS,if_neg (by simp),if_neg (by simp)];rfl
end
def sN (op dst a b n env:Int):Nd:=.mk ⟨op,dst,a,b,n,env,leafT 0 0,Is.nl⟩ none 0 0 0 0 (fun _=>.dm) none 0 0 0 0 (fun _=>.dm)
section
variable {n:Strs} {g:Grid} {many:Int} {m:Nat} {dst a b nn env:Int}
end
structure Sf (n:Strs)(g:Grid)(f:Fc)(L:Nat→Nat):Prop where
 F:zaf n g=true
 sig:okB n g (mk2 4 (botI n g) f.heap f.exc f.param f.result)=true
 c0:f.caps.len=0
 s1:1≤f.slots.len
 s2:f.slots.len≤250
 sl:∀i,i<f.slots.len→f.slots.ps i=leafT 1 (L i:Nat)
 ll:∀i,i<f.slots.len→L i<n.len
 par:f.param=leafT 1 (L 0:Nat)
 bl:f.body.len≤4096
 bs:∀i,i<f.body.len→∃op dst a b nn env,f.body.ps i=sN op dst a b nn env∧(sN op dst a b nn env).shp n g 1 f.slots.len=true
theorem Sf.hld {n:Strs}{g:Grid}{f:Fc}{L:Nat→Nat}(h:Sf n g f L):hldB n g 1 f=((f.out==-1)||slotsB f.slots.len [f.out]):=by
 obtain⟨m,hm,hml,_⟩:=zh5 h.F;have e1:typ1 n g f=true:=by
  unfold typ1;rw[h.c0,decide_eq_true h.s2,decide_eq_true (p:=1+0≤f.slots.len) h.s1];have:(sigT n g f).k=4:=by
   unfold sigT zai;rw[h.sig,hm,zc0 hml];rfl
  rw[this];rfl
 have e2:typ2 n g f=true:=by
  unfold typ2;rw[decide_eq_true_eq];intro i hi;rw[h.sl i hi];exact zlj h.F (h.ll i hi)
 have e3:typ3 f=true:=by
  unfold typ3;rw[h.sl 0 (by have:=h.s1;omega),h.par,same_refl,h.c0]
  rfl
 have e4:f.body.cnt 1 0≤4096:=by
  have key:∀k,k≤f.body.len→cntL (fun i=>(f.body.ps i).cnt 1) 1 k 0=k:=by
   intro k
   induction k with
   | zero=>intro _;rfl
   | succ k ih =>
    intro hk;have h1:=ih (by omega);have hb:=h.bl;show (if 64<1∨4096≤cntL (fun i=>(f.body.ps i).cnt 1) 1 k 0 then 4097 else (f.body.ps k).cnt 1 (cntL (fun i=>(f.body.ps i).cnt 1) 1 k 0))=_
    obtain⟨op,dst,a,b,nn,env,e,_⟩:=h.bs k (by omega);rw[h1,if_neg (by omega),e];rfl
  show cntL (fun i=>(f.body.ps i).cnt 1) 1 f.body.len 0≤4096
  rw[key f.body.len (Nat.le_refl _)];exact h.bl
 have e5:f.body.shp n g 1 f.slots.len=true:=by
  unfold Ns.shp;rw[decide_eq_true_eq];intro i hi;obtain⟨op,dst,a,b,nn,env,e,hs⟩:=h.bs i hi;rw[e];exact hs
 unfold hldB zcf;rw[e1,e2,e3,decide_eq_true e4,e5];rfl
def fl1 (B:Nat)(f:Fc):Fl:=⟨some ⟨B,0,none⟩,B,0,1,1,fun _=>f⟩
theorem zkw {w:World}{B:Nat}{f:Fc}(h:f.At w)(hb:Blk w B f.vs 41):(fl1 B f).At w:=by
 refine⟨fun _=>rfl,by show 1≤9223372036854775807;decide,fun i hi=>?_,fun _ _=>h⟩
 have h1:i<1:=hi;have h2:i=0:=by omega
 subst h2;exact hb.range
theorem zxw {n:Strs}{g:Grid}{B:Nat}{f:Fc}:shdB n g (fl1 B f)=hldB n g 1 f:=by
 have key:∀x:Bool,decide (∀i,i<1→x=true)=x:=by
  intro x;cases x
  ·exact decide_eq_false (fun hh=>by cases hh 0 (by omega))
  ·exact decide_eq_true (fun _ _=>rfl)
 unfold shdB fl1;exact key (hldB n g 1 f)
theorem chk1 {n:Strs}{g:Grid}{B:Nat}{f:Fc}{a b:Int}(h:ChkR n g (fl1 B f) a b)(hs:hldB n g 1 f=true):((jdg n g (fl1 B f) 0).right=true→a=0∧b=0)∧((jdg n g (fl1 B f) 0).right=false→a=0∧b=11):=by
 rw[←zxw (B:=B)] at hs;rcases h with ⟨h1,_⟩ | ⟨_,k,hk,_,h2,h3,h4⟩ | ⟨_,h2,h3,h4⟩
 ·rw[hs] at h1;cases h1
 ·have:k=0:=by have h5:k<1:=hk;omega
  subst this;exact⟨fun hr=>by rw[hr] at h2;(cases h2),fun _=>⟨h3,h4⟩⟩
 ·have:=h2 0 (by show 0<1;omega)
  exact⟨fun _=>⟨h3,h4⟩,fun hr=>by rw[hr] at this;(cases this)⟩
theorem Sf.lf {n:Strs}{g:Grid}{f:Fc}{L:Nat→Nat}{bt:Nat}(h:Sf n g f L)(hb:botI n g=(bt:Int))(hl:bt<n.len)(hlow:∀c,c<n.len→g.B bt c=true)(B:Nat):Lf (jdg n g (fl1 B f) 0) L bt :=
 ⟨h.F,hb,hl,hlow,h.sl,h.ll⟩
end
end Go.Proofs.YtgioppfoceddfaaGreat
