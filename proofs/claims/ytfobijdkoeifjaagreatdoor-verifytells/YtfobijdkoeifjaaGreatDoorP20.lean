import Derived.Test.YtfobijdkoeifjaaGreatDoorP18
import Derived.Test.YtfobijdkoeifjaaGreatDoorP17
import Derived.Deep.QuietTactic
import Derived.Test.YtfobijdkoeifjaaGreatDoorRows
import Derived.Stop.LaidErr
import Derived.Stop.Joined
import Derived.Lib.LaidTab
import Derived.LaidMore
import Derived.OpenShut
set_option maxRecDepth 100000
set_option maxHeartbeats 32000000
namespace Go.Proofs.YtfobijdkoeifjaaGreatDoor
section
open Go Go.RowKit
theorem zck (a:Int)(w:World):Calls Tryz.prog 210 #[.int .i64 a] w fun e w'=>e=.returned (.bool (shB a))∧Below w.heap.size w w':=by
 have HB:=hyd (Below.refl w.heap.size w);by_cases h0:0≤a
 ·by_cases h1:a≤65535
  ·have HE:Hid (shB a=true):=by show _=_;unfold shB;rw[decide_eq_true h0,decide_eq_true h1];rfl
   go_enter Tryz.func210,Tryz.ntmps210
   go_wp2;go_ret;exact⟨zab HE.out.symm,HB.out⟩
  ·have HE:Hid (shB a=false):=by show _=_;unfold shB;rw[decide_eq_true h0,decide_eq_false h1];rfl
   go_enter Tryz.func210,Tryz.ntmps210
   go_wp2;go_ret;exact⟨zab HE.out.symm,HB.out⟩
 ·have HE:Hid (shB a=false):=by show _=_;unfold shB;rw[decide_eq_false h0];rfl
  go_enter Tryz.func210,Tryz.ntmps210
  go_wp2;go_ret;exact⟨zab HE.out.symm,HB.out⟩
theorem zim (h:Hn)(w:World):Calls Tryz.prog 169 #[.agg h.vs.toArray] w fun e w'=>e=.returned (.bool h.fm)∧Below w.heap.size w w':=by
 show Calls Tryz.prog 169 #[.agg #[.int .i64 h.fr,.int .i64 h.tw_,.int .i64 h.at_]] w fun e w'=>e=.returned (.bool h.fm)∧Below w.heap.size w w'
 have B0:=zac w (.cells #[.int .i64 h.fr,.int .i64 h.tw_,.int .i64 h.at_] 123);have b:=Blk.new w [.int .i64 h.fr,.int .i64 h.tw_,.int .i64 h.at_] 123;have c0:=b.cell 0 rfl;have c1:=b.cell 1 rfl;have c2:=b.cell 2 rfl;have HF:Hid (h.fm=((shB h.fr&&shB h.tw_)&&shB h.at_)):=rfl;have h0:=zck h.fr (w.alloc (.cells #[.int .i64 h.fr,.int .i64 h.tw_,.int .i64 h.at_] 123));generalize shB h.fr=b0 at *;go_enter Tryz.func169,Tryz.ntmps169
 go_wp2_with fail
 refine h0.mono ?_;rintro _ w1 ⟨rfl,hb1⟩;have B1:=hyd (Below.next B0 hb1);have d1:=up hb1 c1;have d2:=up hb1 c2;clear h0 c0 c1 c2 b hb1;cases b0
 ·have HE:Hid (h.fm=false):=by show _=_;rw[HF.out];rfl
  go_wp2;go_ret;exact⟨zab HE.out.symm,B1.out⟩
 ·have h1:=zck h.tw_ w1;generalize shB h.tw_=b1 at *;go_wp2_with fail
  refine h1.mono ?_;rintro _ w2 ⟨rfl,hb2⟩;have B2:=hyd (Below.next B1.out hb2);have e2:=up hb2 d2;clear h1 d1 d2 hb2;cases b1
  ·have HE:Hid (h.fm=false):=by show _=_;rw[HF.out];rfl
   go_wp2;go_ret;exact⟨zab HE.out.symm,B2.out⟩
  ·have h2:=zck h.at_ w2;generalize shB h.at_=b2 at *;go_wp2_with fail
   refine h2.mono ?_;rintro _ w3 ⟨rfl,hb3⟩;have B3:=hyd (Below.next B2.out hb3);have HE:Hid (h.fm=b2):=by show _=_;rw[HF.out];cases b2 <;> rfl
   clear h2 e2 hb3;go_wp2;go_ret;exact⟨zab HE.out.symm,B3.out⟩
theorem zgo (t:Ty)(w:World):Calls Tryz.prog 207 #[.agg #[.int .i64 t.k,.int .i64 t.l,.slice t.ao t.len t.cap,.int .i64 t.h,.int .i64 t.e]] w fun e w'=>e=.returned (.bool t.zr)∧Below w.heap.size w w':=by
 have B0:=zac w (.cells #[.int .i64 t.k,.int .i64 t.l,.slice t.ao t.len t.cap,.int .i64 t.h,.int .i64 t.e] 38);have X0:=Bx.new w t;have x0:=X0.c0;have x1:=X0.c1;have x2:=X0.c2;have x3:=X0.c3;have x4:=X0.c4;clear X0;have HF:Hid (t.zr=((((decide (t.k=0)&&decide (t.l=0))&&decide (t.len=0))&&decide (t.h=0))&&decide (t.e=0))):=rfl;have HB:=hyd B0;by_cases h0:t.k=0
 ·by_cases h1:t.l=0
  ·by_cases h2:t.len=0
   ·have i2:(t.len:Int)=0:=by omega
    by_cases h3:t.h=0
    ·by_cases h4:t.e=0
     ·have HE:Hid (t.zr=true):=by show _=_;rw[HF.out];simp[h0,h1,h2,h3,h4]
      have d4:(t.e==0)=true:=by simpa using h4
      have d3:(t.h==0)=true:=by simpa using h3
      have d2:((t.len:Int)==0)=true:=by simpa using h2
      have d1:(t.l==0)=true:=by simpa using h1
      have d0:(t.k==0)=true:=by simpa using h0
      clear h0 h1 h2 h3 h4 i2 HF B0;go_enter Tryz.func207,Tryz.ntmps207
      go_wp2;go_ret;exact⟨zab HE.out.symm,HB.out⟩
     ·have HE:Hid (t.zr=false):=by show _=_;rw[HF.out];simp[h4]
      have d4:(t.e==0)=false:=by simpa using h4
      have d3:(t.h==0)=true:=by simpa using h3
      have d2:((t.len:Int)==0)=true:=by simpa using h2
      have d1:(t.l==0)=true:=by simpa using h1
      have d0:(t.k==0)=true:=by simpa using h0
      clear h0 h1 h2 h3 h4 i2 HF B0;go_enter Tryz.func207,Tryz.ntmps207
      go_wp2;go_ret;exact⟨zab HE.out.symm,HB.out⟩
    ·have HE:Hid (t.zr=false):=by show _=_;rw[HF.out];simp[h3]
     have d3:(t.h==0)=false:=by simpa using h3
     have d2:((t.len:Int)==0)=true:=by simpa using h2
     have d1:(t.l==0)=true:=by simpa using h1
     have d0:(t.k==0)=true:=by simpa using h0
     clear h0 h1 h2 h3 i2 HF B0;go_enter Tryz.func207,Tryz.ntmps207
     go_wp2;go_ret;exact⟨zab HE.out.symm,HB.out⟩
   ·have HE:Hid (t.zr=false):=by show _=_;rw[HF.out];simp[h2]
    have d2:((t.len:Int)==0)=false:=by simpa using h2
    have d1:(t.l==0)=true:=by simpa using h1
    have d0:(t.k==0)=true:=by simpa using h0
    clear h0 h1 h2 HF B0;go_enter Tryz.func207,Tryz.ntmps207
    go_wp2;go_ret;exact⟨zab HE.out.symm,HB.out⟩
  ·have HE:Hid (t.zr=false):=by show _=_;rw[HF.out];simp[h1]
   have d1:(t.l==0)=false:=by simpa using h1
   have d0:(t.k==0)=true:=by simpa using h0
   clear h0 h1 HF B0;go_enter Tryz.func207,Tryz.ntmps207
   go_wp2;go_ret;exact⟨zab HE.out.symm,HB.out⟩
 ·have HE:Hid (t.zr=false):=by show _=_;rw[HF.out];simp[h0]
  have d0:(t.k==0)=false:=by simpa using h0
  clear h0 HF B0;go_enter Tryz.func207,Tryz.ntmps207
  go_wp2;go_ret;exact⟨zab HE.out.symm,HB.out⟩
theorem zgl {w0:World}{n:Strs}{g:Grid}{p:Nat}{S:Nat→Prop}{R:List Ty}(a:Int)(w:World)(hP:Pl w0 n g p S R w) :
  Calls Tryz.prog 203 #[.pointer (some ⟨p,0,none⟩),.int .i64 a] w fun e w'=>e=.returned (.bool (inR n.len a))∧Below w.heap.size w w':=by
 obtain⟨m,v,es,c,Q,hPw,_⟩:=hP;have p0:=hPw.blk.cell 0 rfl;have HB:=hyd (Below.refl w.heap.size w);have HE:Hid (inR n.len a=(decide (0≤a)&&decide (a<n.len))):=rfl;clear hPw;generalize inR n.len a=r at *;by_cases h0:0≤a
 ·have HE2:Hid (r=decide (a<n.len)):=by show _=_;rw[HE.out,decide_eq_true h0];rfl
  go_enter Tryz.func203,Tryz.ntmps203
  go_wp2;go_ret;exact⟨zab HE2.out.symm,HB.out⟩
 ·have HE2:Hid (r=false):=by show _=_;rw[HE.out,decide_eq_false h0];rfl
  go_enter Tryz.func203,Tryz.ntmps203
  go_wp2;go_ret;exact⟨zab HE2.out.symm,HB.out⟩
theorem zi8 (w:World)(a b:Int):∃M,(Builtin.max2 (.int .i64 a) (.int .i64 b)).run Tryz.prog w=.ok (.int .i64 M) w∧(∀k,M≤k↔a≤k∧b≤k):=by
 by_cases h:a<b
 ·exact⟨b,by simp[Builtin.max2];omega,fun k=>by omega⟩
 ·exact⟨a,by simp[Builtin.max2];omega,fun k=>by omega⟩
theorem zty (ts:Array TypeId)(ty:TypeId)(w:World)(a b c d:Int):∃M,(Builtin.max_ ts ty #[.int .i64 a,.int .i64 b,.int .i64 c,.int .i64 d]).run Tryz.prog w=.ok (.int .i64 M) w∧(M≤2000↔((a≤2000∧b≤2000)∧c≤2000)∧d≤2000):=by
 obtain⟨M1,h1,k1⟩:=zi8 w a b;obtain⟨M2,h2,k2⟩:=zi8 w M1 c;obtain⟨M3,h3,k3⟩:=zi8 w M2 d;refine⟨M3,?_,by rw[k3,k2,k1]⟩;unfold Builtin.max_;simp[h1,h2,h3]
theorem zl2 (f:Cf)(w:World):Calls Tryz.prog 162 #[.agg f.vs.toArray] w fun e w'=>e=.returned (.bool f.few)∧Below w.heap.size w w':=by
 have B0:=hyd (zac w (.cells f.vs.toArray 44));have b:=Blk.new w f.vs 44;have c10:=b.cell 10 rfl;have c14:=b.cell 14 rfl;have c15:=b.cell 15 rfl;have c16:=b.cell 16 rfl;have c17:=b.cell 17 rfl;have HF:Hid (f.few=(decide (f.c.len≤16)&&(decide (f.cd.len≤2000)&&(decide (f.hd.len≤2000)&&(decide (f.pt.len≤2000)&&decide (f.rg.len≤2000)))))):=rfl;generalize f.few=F at *;generalize f.vs.toArray=V at *;clear b;by_cases h0:f.c.len≤16
 ·have i0:(f.c.len:Int)≤16:=by omega
  obtain⟨M,hmx,hM⟩:=zty #[3,3,3,3] 3 (w.alloc (.cells V 44)) f.cd.len f.hd.len f.pt.len f.rg.len;have HE:Hid (F=decide (M≤2000)):=by
   show _=_
   rw[HF.out,decide_eq_true h0,Bool.true_and];by_cases h:M≤2000
   ·rw[decide_eq_true h];have:=hM.1 h;simp;omega
   ·rw[decide_eq_false h];simp
    intro h1 h2 h3;apply Classical.byContradiction
    intro h4;exact h (hM.2 (by omega))
  clear hM;go_enter Tryz.func162,Tryz.ntmps162
  go_wp2;go_ret;exact⟨zab HE.out.symm,B0.out⟩
 ·have i0:¬(f.c.len:Int)≤16:=by omega
  have HE:Hid (F=false):=by show _=_;rw[HF.out,decide_eq_false h0];rfl
  go_enter Tryz.func162,Tryz.ntmps162
  go_wp2;go_ret;exact⟨zab HE.out.symm,B0.out⟩
theorem zn7 {w0:World}{n:Strs}{g:Grid}{p:Nat}{S:Nat→Prop}{R:List Ty}(f:Cf)(w:World)(hP:Pl w0 n g p S R w) :
  Calls Tryz.prog 161 #[.pointer (some ⟨p,0,none⟩),.agg f.vs.toArray] w fun e w'=>e=.returned (.bool (f.bnds n.len))∧Below w.heap.size w w':=by
 have B0:=zac w (.cells f.vs.toArray 44);have b:=Blk.new w f.vs 44;have c11:=b.cell 11 rfl;have c12:=b.cell 12 rfl;have c13:=b.cell 13 rfl;have HF:Hid (f.bnds n.len=(((inR n.len f.h&&(decide (f.e=-1)||inR n.len f.e))&&decide (1≤f.sl))&&decide (f.sl≤250))):=rfl;have HP:=hyd (hP.kept B0);have h1:=zgl f.h _ (hP.kept B0);have HB:=hyd B0;clear b hP B0;generalize f.bnds n.len=F at *;generalize f.vs.toArray=V at *;generalize inR n.len f.h=r0 at *;go_enter Tryz.func161,Tryz.ntmps161
 go_wp2_with fail
 refine h1.mono ?_;rintro _ w1 ⟨rfl,hb1⟩;have HP1:=hyd (HP.out.kept hb1);have HB1:=hyd (Below.next HB.out hb1);have d12:=up hb1 c12;have d13:=up hb1 c13;clear h1 hb1 c11 c12 c13 HP HB;cases r0
 ·have HE:Hid (F=false):=by show _=_;rw[HF.out];rfl
  go_wp2;go_ret;exact⟨zab HE.out.symm,HB1.out⟩
 ·by_cases he:f.e=-1
  ·have de:(f.e==-1)=true:=by simpa using he
   have HE:Hid (F=(decide (1≤f.sl)&&decide (f.sl≤250))):=by show _=_;rw[HF.out,decide_eq_true he];rfl
   clear he;by_cases hs:1≤f.sl
   ·have HE2:Hid (F=decide (f.sl≤250)):=by show _=_;rw[HE.out,decide_eq_true hs];rfl
    go_wp2;go_ret;exact⟨zab HE2.out.symm,HB1.out⟩
   ·have HE2:Hid (F=false):=by show _=_;rw[HE.out,decide_eq_false hs];rfl
    go_wp2;go_ret;exact⟨zab HE2.out.symm,HB1.out⟩
  ·have de:(f.e==-1)=false:=by simpa using he
   have HE:Hid (F=((inR n.len f.e&&decide (1≤f.sl))&&decide (f.sl≤250))):=by show _=_;rw[HF.out,decide_eq_false he];rfl
   have h2:=zgl f.e w1 HP1.out;clear he;generalize inR n.len f.e=r1 at *;go_wp2_with fail
   refine h2.mono ?_;rintro _ w2 ⟨rfl,hb2⟩;have HB2:=hyd (Below.next HB1.out hb2);have e13:=up hb2 d13;clear h2 hb2 d12 d13 HP1;cases r1
   ·have HE2:Hid (F=false):=by show _=_;rw[HE.out];rfl
    go_wp2;go_ret;exact⟨zab HE2.out.symm,HB2.out⟩
   ·by_cases hs:1≤f.sl
    ·have HE2:Hid (F=decide (f.sl≤250)):=by show _=_;rw[HE.out,decide_eq_true hs];rfl
     go_wp2;go_ret;exact⟨zab HE2.out.symm,HB2.out⟩
    ·have HE2:Hid (F=false):=by show _=_;rw[HE.out,decide_eq_false hs];rfl
     go_wp2;go_ret;exact⟨zab HE2.out.symm,HB2.out⟩
theorem zjb (r:Rn)(w:World)(hr:r.At w):Calls Tryz.prog 171 #[.agg r.vs.toArray] w fun e w'=>e=.returned (.bool r.fm)∧Below w.heap.size w w':=by
 show Calls Tryz.prog 171 #[.agg #[.int .i64 r.at_,.int .i64 r.join,.slice r.ps.ao r.ps.len r.ps.cap]] w fun e w'=>e=.returned (.bool r.fm)∧Below w.heap.size w w'
 have B0:=zac w (.cells #[.int .i64 r.at_,.int .i64 r.join,.slice r.ps.ao r.ps.len r.ps.cap] 53);have b:=Blk.new w [.int .i64 r.at_,.int .i64 r.join,.slice r.ps.ao r.ps.len r.ps.cap] 53;have c0:=b.cell 0 rfl;have c1:=b.cell 1 rfl;have c2:=b.cell 2 rfl;have HF:Hid (r.fm=(((shB r.at_&&(decide (-1≤r.join)&&decide (r.join≤65534)))&&decide (r.ps.len≤2000))&&decide (∀i,i<r.ps.len→shB (r.ps.x i)=true))):=rfl;have h0:=zck r.at_ (w.alloc (.cells #[.int .i64 r.at_,.int .i64 r.join,.slice r.ps.ao r.ps.len r.ps.cap] 53));have HR:=hyd (hr.kept B0);have HB:=hyd B0;clear b B0 hr;generalize r.fm=F at *;generalize shB r.at_=b0 at *;go_enter Tryz.func171,Tryz.ntmps171
 go_wp2_with fail
 refine h0.mono ?_;rintro _ w1 ⟨rfl,hb1⟩;have HB1:=hyd (Below.next HB.out hb1);have HR1:=hyd (Rn.At.kept hb1 HR.out);have d1:=up hb1 c1;have d2:=up hb1 c2;clear h0 c0 c1 c2 hb1 HR HB;cases b0
 ·have HE:Hid (F=false):=by show _=_;rw[HF.out];rfl
  go_wp2;go_ret;exact⟨zab HE.out.symm,HB1.out⟩
 ·have HG:=hyd HR1.out.join;by_cases hj:r.join=9223372036854775807
  ·rw[hj] at d1;have h2:=zck (-9223372036854775808) w1;have hs:shB (-9223372036854775808)=false:=by decide
   have hw64:wrap64 9223372036854775808=-9223372036854775808:=by kernel_rfl
   rw[hs] at h2;have HE:Hid (F=false):=by show _=_;rw[HF.out,hj];rfl
   clear hj hs;go_wp2_with fail
   rw[hw64];refine h2.mono ?_;rintro _ w2 ⟨rfl,hb2⟩;have HB2:=hyd (Below.next HB1.out hb2);clear h2 hb2 d1 d2;go_wp2;go_ret;exact⟨zab HE.out.symm,HB2.out⟩
  ·have hg1:-9223372036854775808≤r.join+1:=by have:=HG.out.1;omega
   have hg2:r.join+1≤9223372036854775807:=by have:=HG.out.2;omega
   have h2:=zck (r.join+1) w1;have HS:Hid (shB (r.join+1)=(decide (-1≤r.join)&&decide (r.join≤65534))):=by
    show _=_
    unfold shB
    congr 1
    ·exact decide_eq_decide.2 (by omega)
    ·exact decide_eq_decide.2 (by omega)
   rw[HS.out] at h2;generalize (decide (-1≤r.join)&&decide (r.join≤65534))=b1 at *;clear hj;go_wp2_with fail
   refine h2.mono ?_;rintro _ w2 ⟨rfl,hb2⟩;have HB2:=hyd (Below.next HB1.out hb2);have HR2:=hyd (Rn.At.kept hb2 HR1.out);have e2:=up hb2 d2;clear h2 hb2 d1 d2 HR1 hg1 hg2 HS;cases b1
   ·have HE:Hid (F=false):=by show _=_;rw[HF.out];rfl
    go_wp2;go_ret;exact⟨zab HE.out.symm,HB2.out⟩
   ·by_cases hl:r.ps.len≤2000
    ·have il:(r.ps.len:Int)≤2000:=by omega
     have h3:=zwd shB r.ps w2 HR2.out.ps zck;have HE:Hid (F=decide (∀i,i<r.ps.len→shB (r.ps.x i)=true)):=by show _=_;rw[HF.out,decide_eq_true hl];rfl
     generalize decide (∀i,i<r.ps.len→shB (r.ps.x i)=true)=b3 at *;go_wp2_with fail
     refine h3.mono ?_;rintro _ w3 ⟨rfl,hb3⟩;have HB3:=hyd (Below.next HB2.out hb3);clear h3 hb3 e2;go_wp2;go_ret;exact⟨zab HE.out.symm,HB3.out⟩
    ·have il:¬(r.ps.len:Int)≤2000:=by omega
     have HE:Hid (F=false):=by show _=_;rw[HF.out,decide_eq_false hl];rfl
     go_wp2;go_ret;exact⟨zab HE.out.symm,HB2.out⟩
structure BR (w0:World)(n:Strs)(g:Grid)(p:Nat)(S:Nat→Prop)(w:World)(R:List Ty)(c:Nat)(ans:Bool)(R':List Ty)(e:Ending)(w':World):Prop where
 ret:e=.returned (.bool ans)
 yes:ans=true→(∃S',Pg w0 n g p S w S' R' w')∧R'.length≤R.length+c
 bl:Below w0.heap.size w0 w'
def zb4 (f:Nat→Ty):Nat→List Ty→List Ty
 | 0,R=>R
 | k+1,R=>za8 (zb4 f k R) (f k)
theorem zhz {w0:World}{n:Strs}{g:Grid}{p:Nat}(hF:zae n g=true)(hn:n.At w0)(hg:g.At w0)(T:Ty)(S:Nat→Prop)(R:List Ty)(w:World)(hT:T.At w0)(hP:Pl w0 n g p S R w)(hR:R.length+40*T.len≤2000000000) :
  Calls Tryz.prog 164 #[.pointer (some ⟨p,0,none⟩),.slice T.ao T.len T.cap] w fun e w'=>BR w0 n g p S w R (40*T.len) (decide (∀i,i<T.len→(T.ps i).ok n.len=true)) (zb4 T.ps T.len R) e w':=by
 have hA:=all_ty (.pointer (some ⟨p,0,none⟩)) (fun i u=>(∃S',Pg w0 n g p S w S' (zb4 T.ps i R) u)∧(zb4 T.ps i R).length≤R.length+40*i) (fun u=>Below w0.heap.size w0 u) (fun i=>(T.ps i).ok n.len) T.ao T.b T.o T.len T.cap (fun i=>(T.ps i).vs) w hT.nil hT.bound (fun _ _=>rfl) (fun i _=>zo1 _)
  (fun i u hi h=>by
   obtain⟨⟨S',h1⟩,_⟩:=h;exact zl7 ((hT.kept h1.pl.bl).cells hi))
  (fun i u u' _ h hb=>by
   obtain⟨⟨S',h1⟩,h2⟩:=h;exact⟨⟨S',h1.kept hb⟩,h2⟩)
  (fun i u hi h=>by
   obtain⟨⟨S',h1⟩,h2⟩:=h;refine (zdq hF hn hg (T.ps i) S' (zb4 T.ps i R) u (hT.part hi) h1.pl (by
    have:40*(i+1)≤40*T.len:=Nat.mul_le_mul_left _ hi;omega)).mono ?_
   rintro e u' ⟨h3,S2,h4⟩;refine⟨h3,fun h5=>?_,fun _=>h4.pl.bl⟩;rw[if_pos h5] at h4;refine⟨⟨S2,h1.trans h4⟩,?_⟩;have h6:=zdo (zb4 T.ps i R) (T.ps i);have h7:=(zc8 h5).2;show (za8 (zb4 T.ps i R) (T.ps i)).length≤_
   omega)
  ⟨⟨S,Pg.of hP (Below.refl _ _)⟩,Nat.le_refl _⟩
 have HR:Hid (∀e w',AllR (fun i u=>(∃S',Pg w0 n g p S w S' (zb4 T.ps i R) u)∧(zb4 T.ps i R).length≤R.length+40*i) (fun u=>Below w0.heap.size w0 u) T.len (fun i=>(T.ps i).ok n.len) e w'→BR w0 n g p S w R (40*T.len) (decide (∀i,i<T.len→(T.ps i).ok n.len=true)) (zb4 T.ps T.len R) e w'):=fun e w' h=>by
  refine⟨h.ret,fun h1=>h.yes (of_decide_eq_true h1),?_⟩;by_cases h1:∀i,i<T.len→(T.ps i).ok n.len=true
  ·obtain⟨⟨S',h2⟩,_⟩:=h.yes h1;exact h2.pl.bl
  ·apply h.no
   apply Classical.byContradiction
   intro h2;apply h1
   intro i hi;cases h3:(T.ps i).ok n.len
   ·exact absurd ⟨i,hi,h3⟩ h2
   ·rfl
 have hmf:∀(fn:Go.Fn) (first cap:Array Value) (w:World),(Instr.makeFunc fn first cap).run Tryz.prog w=.ok (.func fn first cap) w:=fun _ _ _ _=>rfl;clear hP hR hT hF hn hg;go_enter Tryz.func164,Tryz.ntmps164
 go_wp2_with fail
 refine Calls.mono hA ?_;rintro e w1 h1;have h2:=HR.out _ _ h1;obtain rfl:=h1.ret;have H2:=hyd h2;clear h1 h2 hA HR;go_wp2;go_ret;exact H2.out
theorem zi7 (has:Nat)(a:Int)(w:World):Calls Tryz.prog 208 #[.int .i64 has,.int .i64 a] w fun e w'=>e=.returned (.bool (nmB has a))∧Below w.heap.size w w':=by
 have HB:=hyd (Below.refl w.heap.size w);have HF:Hid (nmB has a=if has=1 then true else if has=2 then decide (a=0)||decide (a=1) else if has=3 then shB a else decide (a=0)):=rfl;generalize nmB has a=F at *;by_cases h1:has=1
 ·subst h1;have HE:Hid (F=true):=HF.out;go_enter Tryz.func208,Tryz.ntmps208
  go_wp2;go_ret;exact⟨zab HE.out.symm,HB.out⟩
 ·have i1:((has:Int)==1)=false:=by simp;omega
  by_cases h2:has=2
  ·subst h2;by_cases h0:a=0
   ·subst h0;have HE:Hid (F=true):=HF.out;go_enter Tryz.func208,Tryz.ntmps208
    go_wp2;go_ret;exact⟨zab HE.out.symm,HB.out⟩
   ·have j0:(a==0)=false:=by simpa using h0
    have HE:Hid (F=(a==1)):=by show _=_;rw[HF.out];simp[h0];rfl
    clear h0;go_enter Tryz.func208,Tryz.ntmps208
    go_wp2;go_ret;exact⟨zab HE.out.symm,HB.out⟩
  ·have i2:((has:Int)==2)=false:=by simp;omega
   by_cases h3:has=3
   ·subst h3;by_cases h0:0≤a
    ·have HE:Hid (F=decide (a≤65535)):=by show _=_;rw[HF.out];show shB a=_;unfold shB;rw[decide_eq_true h0];rfl
     go_enter Tryz.func208,Tryz.ntmps208
     go_wp2;go_ret;exact⟨zab HE.out.symm,HB.out⟩
    ·have HE:Hid (F=false):=by show _=_;rw[HF.out];show shB a=_;unfold shB;rw[decide_eq_false h0];rfl
     go_enter Tryz.func208,Tryz.ntmps208
     go_wp2;go_ret;exact⟨zab HE.out.symm,HB.out⟩
   ·have i3:((has:Int)==3)=false:=by simp;omega
    have HE:Hid (F=(a==0)):=by show _=_;rw[HF.out,if_neg h1,if_neg h2,if_neg h3];rfl
    clear h1 h2 h3;go_enter Tryz.func208,Tryz.ntmps208
    go_wp2;go_ret;exact⟨zab HE.out.symm,HB.out⟩
def Og (w:World):Prop:=∀i,i<28→w.cell? ⟨2,i,none⟩=some (.int .i64 (opr i))
theorem Og.kept {w w':World}(h:Og w)(hb:Below w.heap.size w w'):Og w':=fun i hi=>up hb (h i hi)
def In.take (R:List Ty)(i:In):List Ty:=if i.op=20 then za8 R i.t else R
theorem BR.no {w0:World}{n:Strs}{g:Grid}{p:Nat}{S:Nat→Prop}{w:World}{R:List Ty}{c:Nat}{ans:Bool}{R':List Ty}{e:Ending}{w':World}(h1:e=.returned (.bool false))(h2:ans=false)(h3:Below w0.heap.size w0 w'):BR w0 n g p S w R c ans R' e w':=by
 subst h2;exact⟨h1,fun h=>(by cases h),h3⟩
theorem opr_ty {a:Int}:opr a=4↔a=20:=by
 unfold opr;repeat' split
 all_goals omega
theorem zly {w0:World}{n:Strs}{g:Grid}{p:Nat}(hF:zae n g=true)(hn:n.At w0)(hg:g.At w0)(hO:Og w0)(i:In)(S:Nat→Prop)(R:List Ty)(w:World)(hi:i.At w0)(hP:Pl w0 n g p S R w)(hR:R.length+40≤2000000000) :
  Calls Tryz.prog 166 #[.pointer (some ⟨p,0,none⟩),.agg i.vs.toArray] w fun e w'=>BR w0 n g p S w R 40 (i.fm n.len) (i.take R) e w':=by
 show Calls Tryz.prog 166 #[.pointer (some ⟨p,0,none⟩),.agg #[.int .i64 i.op,.int .i64 i.a,.int .i64 i.t.k,.int .i64 i.t.l,.slice i.t.ao i.t.len i.t.cap,.int .i64 i.t.h,.int .i64 i.t.e]] w fun e w'=>BR w0 n g p S w R 40 (i.fm n.len) (i.take R) e w'
 have B0:=zac w (.cells #[.int .i64 i.op,.int .i64 i.a,.int .i64 i.t.k,.int .i64 i.t.l,.slice i.t.ao i.t.len i.t.cap,.int .i64 i.t.h,.int .i64 i.t.e] 50);have b:=Blk.new w [.int .i64 i.op,.int .i64 i.a,.int .i64 i.t.k,.int .i64 i.t.l,.slice i.t.ao i.t.len i.t.cap,.int .i64 i.t.h,.int .i64 i.t.e] 50;have c0:=b.cell 0 rfl;have c1:=b.cell 1 rfl;have c2:=b.cell 2 rfl;have c3:=b.cell 3 rfl;have c4:=b.cell 4 rfl;have c5:=b.cell 5 rfl;have c6:=b.cell 6 rfl;have HPG:=hyd (Pg.of hP B0);have HD:=hyd (show zae n g=true∧n.At w0∧g.At w0∧i.t.At w0∧R.length+40≤2000000000 from ⟨hF,hn,hg,hi.t,hR⟩);have HOg:=hyd (hO.kept (Below.next hP.bl B0));have HB0:=hyd B0;have HF:Hid (i.fm n.len=((decide (1≤i.op)&&decide (i.op≤27))&&(if i.op=20 then decide (i.a=0)&&i.t.ok n.len else i.t.zr&&nmB (opr i.op) i.a))):=rfl;have HT:Hid (i.take R=if i.op=20 then za8 R i.t else R):=rfl;clear b B0 hF hn hg hi hR hP hO;generalize i.fm n.len=F at *;generalize i.take R=R' at *;generalize i.op=op at *;by_cases h1:op<1
 ·have HE:Hid (F=false):=by show _=_;rw[HF.out,decide_eq_false (by omega)];rfl
  go_enter Tryz.func166,Tryz.ntmps166
  go_wp2;go_ret;exact BR.no rfl HE.out HPG.out.pl.bl
 by_cases h2:27<op
 ·have HE:Hid (F=false):=by show _=_;rw[HF.out,decide_eq_true (show 1≤op by omega),decide_eq_false (by omega)];rfl
  go_enter Tryz.func166,Tryz.ntmps166
  go_wp2;go_ret;exact BR.no rfl HE.out HPG.out.pl.bl
 have HF2:Hid (F=if op=20 then decide (i.a=0)&&i.t.ok n.len else i.t.zr&&nmB (opr op) i.a):=by
  show _=_
  rw[HF.out,decide_eq_true (show 1≤op by omega),decide_eq_true (show op≤27 by omega)];rfl
 obtain⟨k,rfl⟩:∃k:Nat,op=k:=⟨op.toNat,by omega⟩;have hk28:(k:Int)<28:=by omega
 have o0:=HOg.out k (by omega);have HO4:Hid (opr (k:Int)=4↔(k:Int)=20):=opr_ty;have i1:¬(k:Int)<1:=h1;have i2:¬(27:Int)<k:=h2;clear HF HOg h1 h2;generalize opr (k:Int)=has at *;by_cases h4:has=4
 ·subst h4;have hop:(k:Int)=20:=HO4.out.1 rfl;have HF3:Hid (F=(decide (i.a=0)&&i.t.ok n.len)):=by show _=_;rw[HF2.out,if_pos hop]
  have HT3:Hid (R'=za8 R i.t):=by show _=_;rw[HT.out,if_pos hop]
  clear hop;by_cases ha:i.a=0
  ·have da:(i.a==0)=true:=by simpa using ha
   have HF4:Hid (F=i.t.ok n.len):=by show _=_;rw[HF3.out,decide_eq_true ha];rfl
   have ht:=zdq HD.out.1 HD.out.2.1 HD.out.2.2.1 i.t S R _ HD.out.2.2.2.1 HPG.out.pl HD.out.2.2.2.2;clear ha;go_enter Tryz.func166,Tryz.ntmps166
   go_wp2_with fail
   refine Calls.mono ht ?_;rintro e w1 ⟨h5,S',h6⟩;subst h5;have H6:=hyd h6;have HW:=hyd (show i.t.ok n.len=true→i.t.nodes≤40 from fun h=>(zc8 h).2);clear ht h6;generalize i.t.ok n.len=bb at *;go_wp2;go_ret;refine⟨zab HF4.out.symm,fun h=>?_,H6.out.pl.bl⟩;have hb:bb=true:=HF4.out.symm.trans h;have h7:=H6.out;rw[if_pos hb] at h7;rw[HT3.out];refine⟨⟨S',Pg.ahead HB0.out h7⟩,?_⟩;have h8:=zdo R i.t;have h9:=HW.out hb;omega
  ·have da:(i.a==0)=false:=by simpa using ha
   have HE:Hid (F=false):=by show _=_;rw[HF3.out,decide_eq_false ha];rfl
   clear ha;go_enter Tryz.func166,Tryz.ntmps166
   go_wp2;go_ret;exact BR.no rfl HE.out HPG.out.pl.bl
 ·have d4:((has:Int)==4)=false:=by simp;omega
  have hop:¬(k:Int)=20:=fun h=>h4 (HO4.out.2 h);have HF3:Hid (F=(i.t.zr&&nmB has i.a)):=by show _=_;rw[HF2.out,if_neg hop]
  have HT3:Hid (R'=R):=by show _=_;rw[HT.out,if_neg hop]
  clear hop h4;have hz:=zgo i.t (w.alloc (.cells #[.int .i64 k,.int .i64 i.a,.int .i64 i.t.k,.int .i64 i.t.l,.slice i.t.ao i.t.len i.t.cap,.int .i64 i.t.h,.int .i64 i.t.e] 50));generalize i.t.zr=bz at *;go_enter Tryz.func166,Tryz.ntmps166
  go_wp2_with fail
  refine Calls.mono hz ?_;rintro _ w1 ⟨rfl,hb1⟩;have H1:=hyd (HPG.out.kept hb1);have d1:=up hb1 c1;clear hz hb1 c0 c1 c2 c3 c4 c5 c6 o0;cases bz
  ·have HE:Hid (F=false):=by show _=_;rw[HF3.out];rfl
   go_wp2;go_ret;exact BR.no rfl HE.out H1.out.pl.bl
  ·have hm:=zi7 has i.a w1;have HE:Hid (F=nmB has i.a):=by show _=_;rw[HF3.out];rfl
   generalize nmB has i.a=bm at *;go_wp2_with fail
   refine Calls.mono hm ?_;rintro _ w2 ⟨rfl,hb2⟩;have H2:=hyd (H1.out.kept hb2);clear hm hb2 d1;go_wp2;go_ret;exact⟨zab HE.out.symm,fun _=>⟨⟨S,by rw[HT3.out];exact H2.out⟩,by rw[HT3.out];omega⟩,H2.out.pl.bl⟩
theorem C5.draw {w:World}{b o:Nat}{t:Ty}(h:C5 w b o t)(n:Nat):C5 (w.drewN n) b o t:=⟨h.c0,h.c1,h.c2,h.c3,h.c4⟩
theorem Ty.At.draw {w:World}{t:Ty}(h:t.At w)(n:Nat):t.At (w.drewN n):=h.kept (zbv (Below.refl _ _) n)
theorem zsb:∀(s t:Ty) (bs os bt ot:Nat) (w:World),C5 w bs os s→s.At w→C5 w bt ot t→t.At w →
  Calls Tryz.prog 228 #[.pointer (some ⟨bs,os,none⟩),.pointer (some ⟨bt,ot,none⟩)] w fun e w'=>e=.returned (.bool (s.same t))∧∃m,w'=w.drewN m:=by
 intro s
 induction s with
 | dm=>intro t bs os bt ot w _ hAt;exact hAt.elim
 | mk k l h e ao b o len cap ps ih =>
  intro t bs os bt ot w hs hsA ht htA;have x0:=hs.c0;have x1:=hs.c1;have x2:=hs.c2;have x3:=hs.c3;have x4:=hs.c4;simp only[Ty.k,Ty.l,Ty.h,Ty.e,Ty.ao,Ty.len,Ty.cap] at x0 x1 x2 x3 x4;have y0:=ht.c0;have y1:=ht.c1;have y2:=ht.c2;have y3:=ht.c3;have y4:=ht.c4;have HS:Hid ((Ty.mk k l h e ao b o len cap ps).same t=(((((k==t.k)&&(l==t.l))&&((h==t.h)&&(e==t.e)))&&(len==t.len))&&decide (∀i,i<len→(ps i).same (t.ps i)=true))):=rfl;generalize (Ty.mk k l h e ao b o len cap ps).same t=F at *;have HC:=hyd (show C5 w bs os (.mk k l h e ao b o len cap ps)∧Ty.At w (.mk k l h e ao b o len cap ps)∧C5 w bt ot t∧t.At w from ⟨hs,hsA,ht,htA⟩);have hb:len≤9223372036854775807:=hsA.bound;have hnil:0<len→ao=some ⟨b,o,none⟩:=hsA.nil;have hnit:0<t.len→t.ao=some ⟨t.b,t.o,none⟩:=htA.nil;clear hs hsA ht htA;by_cases h0:k=t.k
  ·have d0:(k != t.k)=false:=by simpa using h0
   by_cases h1:l=t.l
   ·have d1:(l != t.l)=false:=by simpa using h1
    by_cases h2:h=t.h
    ·have d2:(h != t.h)=false:=by simpa using h2
     by_cases h3:e=t.e
     ·have d3:(e != t.e)=false:=by simpa using h3
      by_cases h4:len=t.len
      ·have d4:((len:Int) != (t.len:Int))=false:=by simp;omega
       have HE:Hid (F=decide (∀i,i<len→(ps i).same (t.ps i)=true)):=by
        show _=_
        rw[HS.out];simp[h0,h1,h2,h3,h4]
       have HL:=hyd h4;have hlt2:∀j:Nat,j<len→(j:Int)<(t.len:Int):=fun j hj=>by omega
       clear h0 h1 h2 h3 h4 HS;go_enter Tryz.func228,Tryz.ntmps228
       go_wp2
       go_quiet (fail)
       clear d0 d1 d2 d3 d4;go_wp2;go_loopw [66] (fun i wr=>∃(j:Nat),j≤len∧i=.int .i64 j∧(∀i,i<j→(ps i).same (t.ps i)=true)∧∃m,wr=w.drewN m) (fun i _=>len - (intOf i).toNat)
       case atStart=>exact⟨0,Nat.zero_le _,rfl,fun i hi=>absurd hi (Nat.not_lt_zero _),_,rfl⟩
       case round =>
        obtain⟨j,hj,rfl,hall,m,rfl⟩:=hrel;have HA:=hyd hall;clear hall;by_cases hlt:j<len
        ·have ij:(j:Int)<len:=by omega
         have it:=hlt2 j hlt;have a0:=hnil (by omega);have b0:=hnit (by omega);subst a0;rw[b0] at y2;have hcl:∀q,Calls Tryz.prog 228 #[.pointer (some ⟨b,o+j*5,none⟩),.pointer (some ⟨t.b,t.o+j*5,none⟩)] (w.drewN q) fun e w'=>e=.returned (.bool ((ps j).same (t.ps j)))∧∃m,w'=(w.drewN q).drewN m:=fun q=>ih j (t.ps j) b (o+j*5) t.b (t.o+j*5) (w.drewN q) ((HC.out.2.1.cells hlt).draw q) ((HC.out.2.1.part hlt).draw q) ((HC.out.2.2.2.cells (by have:=HL.out;omega)).draw q) ((HC.out.2.2.2.part (by have:=HL.out;omega)).draw q)
         have HAS:Hid (∀b,(b=(ps j).same (t.ps j))→(b=true→∀i,i<j+1→(ps i).same (t.ps i)=true)∧(b=false→F=false)):=by
          intro b hb;refine⟨fun h1 i hi=>?_,fun h1=>?_⟩
          ·rcases Nat.lt_or_ge i j with h2 | h2
           ·exact HA.out i h2
           ·have:i=j:=by omega
            subst this;rw[←hb];exact h1
          ·rw[HE.out,decide_eq_false_iff_not];intro hh;have:=hh j hlt;rw[←hb,h1] at this;cases this
         clear hlt2 b0 hnil hnit HA;generalize (ps j).same (t.ps j)=bb at *;have H5:=hyd (HAS.out bb rfl);clear HAS;have hcm:∀q,Calls Tryz.prog 228 #[.pointer (some ⟨b,o+j*5,none⟩),.pointer (some ⟨t.b,t.o+j*5,none⟩)] ((w.drewN m).drewN q) fun e w'=>e=.returned (.bool bb)∧∃k,w'=((w.drewN m).drewN q).drewN k:=fun q=>by rw[World.drewN_drewN];exact hcl _
         have HW:Hid (∀q,∃m',(w.drewN m).drewN q=w.drewN m'):=fun q=>⟨_,World.drewN_drewN _ _ _⟩;have x2m:(w.drewN m).cell? ⟨bs,os+2,none⟩=some (.slice (some ⟨b,o,none⟩) len cap):=x2;have y2m:(w.drewN m).cell? ⟨bt,ot+2,none⟩=some (.slice (some ⟨t.b,t.o,none⟩) t.len t.cap):=y2;clear hcl ih x0 x1 x2 x3 x4 y0 y1 y2 y3 y4 HC;generalize w.drewN m=W at *;go_wp2
         go_quiet ((go_at_call 228;exact Calls.quiet_of (hcm _)))
         cases bb
         ·go_wp2;go_ret;exact⟨zab (H5.out.2 (by simp)).symm,HW.out _⟩
         ·go_wp2;go_roundw
          case rel=>exact⟨j+1,by omega,by go_num,H5.out.1 (by simp),HW.out _⟩
          case measure=>simp[intOf];omega
        ·have e2:j=len:=by omega
         subst e2;have dj:¬(j:Int)<j:=by omega
         go_wp2;go_ret;exact⟨zab (by rw[HE.out];symm;rw[decide_eq_true_eq];exact HA.out),_,rfl⟩
      ·have d4:((len:Int) != (t.len:Int))=true:=by simp;omega
       have HE:Hid (F=false):=by show _=_;rw[HS.out];simp[h4]
       clear h0 h1 h2 h3 h4 HS;go_enter Tryz.func228,Tryz.ntmps228
       go_wp2
       go_quiet (fail)
       go_wp2;go_ret;exact⟨zab HE.out.symm,_,rfl⟩
     ·have d3:(e != t.e)=true:=by simpa using h3
      have HE:Hid (F=false):=by show _=_;rw[HS.out];simp[h3]
      clear h0 h1 h2 h3 HS;go_enter Tryz.func228,Tryz.ntmps228
      go_wp2
      go_quiet (fail)
      go_wp2;go_ret;exact⟨zab HE.out.symm,_,rfl⟩
    ·have d2:(h != t.h)=true:=by simpa using h2
     have HE:Hid (F=false):=by show _=_;rw[HS.out];simp[h2]
     clear h0 h1 h2 HS;go_enter Tryz.func228,Tryz.ntmps228
     go_wp2
     go_quiet (fail)
     go_wp2;go_ret;exact⟨zab HE.out.symm,_,rfl⟩
   ·have d1:(l != t.l)=true:=by simpa using h1
    have HE:Hid (F=false):=by show _=_;rw[HS.out];simp[h1]
    clear h0 h1 HS;go_enter Tryz.func228,Tryz.ntmps228
    go_wp2
    go_quiet (fail)
    go_wp2;go_ret;exact⟨zab HE.out.symm,_,rfl⟩
  ·have d0:(k != t.k)=true:=by simpa using h0
   have HE:Hid (F=false):=by show _=_;rw[HS.out];simp[h0]
   clear h0 HS;go_enter Tryz.func228,Tryz.ntmps228
   go_wp2
   go_quiet (fail)
   go_wp2;go_ret;exact⟨zab HE.out.symm,_,rfl⟩
end
section
open Go.RowKit
def oprL:List Int:=[0,1,2,3,3,0,0,0,0,0,0,0,0,0,0,0,0,3,0,0,4,0,0,3,3,3,0,0]
theorem zu5 (i:Nat)(h:i<28):oprL[i]?=some (opr i:Int):=by
 have:=(show (List.range 28).all (fun i=>oprL[i]?==some ((opr (i:Int):Nat):Int))=true by decide);have h2:=List.all_eq_true.1 this i (List.mem_range.2 h)
 simpa using h2
theorem ztr:(Rows.laid_palisade_class_operands:DataW Unit)=Lib.tabData .i64 oprL:=by kernel_rfl
theorem Tryz.gON : Tryz.prog.globalNamed "palisade/class.operands" = some 2 := by kernel_rfl
theorem Tryz.gOTy:(Tryz.prog.globals[2]?).map (·.type)=some 193:=by kernel_rfl
theorem zi4 {W:World}{name:String}{g:Nat}{d:DataW Unit}{rest:List (String × DataW Unit)}{zs:List Int}(hd:d=Lib.tabData .i64 zs)(hN:Tryz.prog.globalNamed name=some g)(hT:(Tryz.prog.globals[g]?).map (·.type)=some 193)(h:laidMet Tryz.prog ((name,d) :: rest) W):∀j,W.cell? ⟨g,j,none⟩=(zs.map fun z=>Value.int .i64 z)[j]?:=by
 obtain⟨ps,⟨g0,t0,cs0,f0,p0,q0,hg0,ht0,hv0,hd0,_,_⟩,_⟩:=h;obtain rfl:=Option.some.inj (hN.symm.trans hg0);obtain rfl:=Option.some.inj (hT.symm.trans ht0);rw[hd] at hd0;have hcs:=Lib.cells_of_tab Tryz.underlying193 Tryz.underlying3 (by kernel_rfl) (by kernel_rfl) hd0;intro j;rw[World.var?_cell hN hv0 j,←hcs,Array.getElem?_toList]
theorem zqg {W : World} {rest : List (String × DataW Unit)} (h : laidMet Tryz.prog (("palisade/class.operands", Rows.laid_palisade_class_operands) :: rest) W) : Og W := fun i hi => by
 rw[zi4 ztr Tryz.gON Tryz.gOTy h i,List.getElem?_map,zu5 i hi];rfl
end
end Go.Proofs.YtfobijdkoeifjaaGreatDoor
