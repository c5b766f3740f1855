import Derived.Test.YtfobijdkoeifjaaGreatDoorP16
import Derived.Test.YtfobijdkoeifjaaGreatDoorP12
set_option maxRecDepth 100000
set_option maxHeartbeats 32000000
namespace Go.Proofs.YtfobijdkoeifjaaGreatDoor
section
open Go Go.RowKit
structure AllR (I:Nat→World→Prop)(J:World→Prop)(len:Nat)(ans:Nat→Bool)(e:Ending)(w':World):Prop where
 ret:e=.returned (.bool (decide (∀i,i<len→ans i=true)))
 yes:(∀i,i<len→ans i=true)→I len w'
 no:(∃i,i<len∧ans i=false)→J w'
def z_ty:List Value:=[.int .i64 0,.int .i64 0,.slice none 0 0,.int .i64 0,.int .i64 0]
theorem zuo (w:World):(Instr.alloc 38 true (.tuple #[])).run Tryz.prog w=.ok (.pointer (some ⟨w.heap.size,0,none⟩)) (w.alloc (.cells z_ty.toArray 38)):=by
 have hz:(Tryz.prog.info? 38).map (·.zero)=some (some (.agg z_ty.toArray)):=by kernel_rfl
 cases hq:Tryz.prog.info? 38 with
 | none=>rw[hq] at hz;simp at hz
 | some i =>
  rw[hq] at hz;simp at hz
  simp[Instr.alloc,newVar,newRow,zeroValue,typeInfo,hq,hz,Value.cells,z_ty]
theorem all_ty (q:Value)(I:Nat→World→Prop)(J:World→Prop)(ans:Nat→Bool)(ao:Option Addr)(b o len cap:Nat)(vs:Nat→List Value)(w:World)(hnil:0<len→ao=some ⟨b,o,none⟩)(hbd:len≤9223372036854775807)
  (hz:∀i,i<len→(vs i).length=5) (h1:∀i,i<len→(vs i).all (·.oneCell')=true) (hrow:∀i u,i<len→I i u→u.rangeAt b (o+i*5) (vs i)) (hgrow:∀i u u',i≤len→I i u→Below u.heap.size u u'→I i u')
  (hcall:∀i u,i<len→I i u→Calls Tryz.prog 163 #[q,.agg (vs i).toArray] u fun e u'=>e=.returned (.bool (ans i))∧(ans i=true→I (i+1) u')∧(ans i=false→J u')) (hI:I 0 w) :
  Calls Tryz.prog 206 #[.slice ao len cap,.func (.func 163) #[q] #[]] w fun e w'=>AllR I J len ans e w':=by
 have HI:=hyd hI;have HH:=hyd (show (∀i,i<len→(vs i).length=5)∧(∀i,i<len→(vs i).all (·.oneCell')=true)∧(∀i u,i<len→I i u→u.rangeAt b (o+i*5) (vs i))∧(∀i u u',i≤len→I i u→Below u.heap.size u u'→I i u') from ⟨hz,h1,hrow,hgrow⟩);have HC:=hyd hcall;clear hI hz h1 hrow hgrow hcall;go_enter Tryz.func206,Tryz.ntmps206
 go_wp2;go_loopw [9] (fun i wr=>∃(k:Nat),k≤len∧i=.int .i64 k∧(∀i,i<k→ans i=true)∧I k wr) (fun i _=>len - (intOf i).toNat)
 case atStart=>exact⟨0,Nat.zero_le _,rfl,fun i hi=>absurd hi (Nat.not_lt_zero _),HI.out⟩
 case round =>
  clear HI;obtain⟨k,hk,rfl,hall,hB⟩:=hrel;have HA:=hyd hall;have HI:=hyd hB;clear hall hB;by_cases hlt:k<len
  ·have ij:(k:Int)<len:=by omega
   have a0:=hnil (by omega);subst a0;have r1:wr.rangeAt b (o+k*5) (vs k):=HH.out.2.2.1 k wr hlt HI.out;have hl1:=HH.out.1 k hlt;have ho1:=HH.out.2.1 k hlt;have hcl:Calls Tryz.prog 163 #[q,.agg (vs k).toArray] (wr.alloc (.cells (vs k).toArray 38)) _:=HC.out k _ hlt (HH.out.2.2.2 k wr _ hk HI.out (zac wr _));have HK:=hyd (show ∀i,i<k→ans i=true from HA.out);have bN:Blk (wr.alloc (.cells (vs k).toArray 38)) wr.heap.size (vs k) 38:=Blk.new wr _ _;clear HI;generalize vs k=xs at *;have hi18:(Tryz.prog.info? 38).map (·.size)=some xs.length:=by rw[hl1];kernel_rfl
   go_upto_region 4 with (first | (refine wpList_load_mid rfl 38 (.tmp 11) rfl b (o+k*5) (by kernel_rfl) xs _ r1 Tryz.underlying38 rfl hi18 ?_) | (refine zao rfl rfl 38 rfl (.tmp 6) (.tmp 12) rfl z_ty (zuo _) rfl xs.toArray (by kernel_rfl) (by kernel_rfl) (by rw[List.size_toArray,hl1];rfl) (by rw[List.size_toArray];exact hi18) (by simpa using ho1) ?_))
   have rN:=bN.range;generalize (wr.alloc (.cells xs.toArray 38))=w3 at *;generalize wr.heap.size=B9 at *;go_wp2_with (refine wpList_load_mid rfl 38 (.tmp 6) rfl B9 0 (by kernel_rfl) xs _ rN Tryz.underlying38 rfl hi18 ?_)
   refine Calls.mono hcl ?_;rintro _ w4 ⟨rfl,hy,hn⟩;clear hcl bN rN r1;have HAS:Hid ((ans k=true→(∀i,i<k+1→ans i=true)∧I (k+1) w4)∧(ans k=false→decide (∀i,i<len→ans i=true)=false∧J w4∧¬∀i,i<len→ans i=true)):=by
    refine⟨fun h=>⟨fun i hi=>?_,hy h⟩,fun h=>⟨?_,hn h,fun hh=>by rw[hh k hlt] at h;cases h⟩⟩
    ·rcases Nat.lt_or_ge i k with h2 | h2
     ·exact HK.out i h2
     ·have:i=k:=by omega
      subst this;exact h
    ·rw[decide_eq_false_iff_not];intro hh;rw[hh k hlt] at h;cases h
   clear hy hn;generalize ans k=bb at *;cases bb
   ·go_wp2;go_ret;have:=HAS.out.2 (by simp);exact⟨zab this.1.symm,fun h=>absurd h this.2.2,fun _=>this.2.1⟩
   ·go_wp2;go_roundw
    case rel=>exact⟨k+1,by omega,by go_num,(HAS.out.1 (by simp)).1,(HAS.out.1 (by simp)).2⟩
    case measure=>simp[intOf];omega
  ·have e2:k=len:=by omega
   subst e2;have d:¬(k:Int)<k:=by omega
   go_wp2;go_ret;exact⟨zab (by symm;rw[decide_eq_true_eq];exact HA.out),fun _=>HI.out,fun ⟨i,hi,h⟩=>by rw[HA.out i hi] at h;cases h⟩
def zfm:List Value:=[.int .i64 0,.int .i64 0,.int .i64 0,.int .i64 0,.slice none 0 0,.int .i64 0,.int .i64 0]
theorem zem (w:World):(Instr.alloc 50 true (.tuple #[])).run Tryz.prog w=.ok (.pointer (some ⟨w.heap.size,0,none⟩)) (w.alloc (.cells zfm.toArray 50)):=by
 have hz:(Tryz.prog.info? 50).map (·.zero)=some (some (.agg zfm.toArray)):=by kernel_rfl
 cases hq:Tryz.prog.info? 50 with
 | none=>rw[hq] at hz;simp at hz
 | some i =>
  rw[hq] at hz;simp at hz
  simp[Instr.alloc,newVar,newRow,zeroValue,typeInfo,hq,hz,Value.cells,zfm]
theorem zw8 (q:Value)(I:Nat→World→Prop)(J:World→Prop)(ans:Nat→Bool)(ao:Option Addr)(b o len cap:Nat)(vs:Nat→List Value)(w:World)(hnil:0<len→ao=some ⟨b,o,none⟩)(hbd:len≤9223372036854775807)
  (hz:∀i,i<len→(vs i).length=7) (h1:∀i,i<len→(vs i).all (·.oneCell')=true) (hrow:∀i u,i<len→I i u→u.rangeAt b (o+i*7) (vs i)) (hgrow:∀i u u',i≤len→I i u→Below u.heap.size u u'→I i u')
  (hcall:∀i u,i<len→I i u→Calls Tryz.prog 166 #[q,.agg (vs i).toArray] u fun e u'=>e=.returned (.bool (ans i))∧(ans i=true→I (i+1) u')∧(ans i=false→J u')) (hI:I 0 w) :
  Calls Tryz.prog 165 #[.slice ao len cap,.func (.func 166) #[q] #[]] w fun e w'=>AllR I J len ans e w':=by
 have HI:=hyd hI;have HH:=hyd (show (∀i,i<len→(vs i).length=7)∧(∀i,i<len→(vs i).all (·.oneCell')=true)∧(∀i u,i<len→I i u→u.rangeAt b (o+i*7) (vs i))∧(∀i u u',i≤len→I i u→Below u.heap.size u u'→I i u') from ⟨hz,h1,hrow,hgrow⟩);have HC:=hyd hcall;clear hI hz h1 hrow hgrow hcall;go_enter Tryz.func165,Tryz.ntmps165
 go_wp2;go_loopw [9] (fun i wr=>∃(k:Nat),k≤len∧i=.int .i64 k∧(∀i,i<k→ans i=true)∧I k wr) (fun i _=>len - (intOf i).toNat)
 case atStart=>exact⟨0,Nat.zero_le _,rfl,fun i hi=>absurd hi (Nat.not_lt_zero _),HI.out⟩
 case round =>
  clear HI;obtain⟨k,hk,rfl,hall,hB⟩:=hrel;have HA:=hyd hall;have HI:=hyd hB;clear hall hB;by_cases hlt:k<len
  ·have ij:(k:Int)<len:=by omega
   have a0:=hnil (by omega);subst a0;have r1:wr.rangeAt b (o+k*7) (vs k):=HH.out.2.2.1 k wr hlt HI.out;have hl1:=HH.out.1 k hlt;have ho1:=HH.out.2.1 k hlt;have hcl:Calls Tryz.prog 166 #[q,.agg (vs k).toArray] (wr.alloc (.cells (vs k).toArray 50)) _:=HC.out k _ hlt (HH.out.2.2.2 k wr _ hk HI.out (zac wr _));have HK:=hyd (show ∀i,i<k→ans i=true from HA.out);have bN:Blk (wr.alloc (.cells (vs k).toArray 50)) wr.heap.size (vs k) 50:=Blk.new wr _ _;clear HI;generalize vs k=xs at *;have hi18:(Tryz.prog.info? 50).map (·.size)=some xs.length:=by rw[hl1];kernel_rfl
   go_upto_region 4 with (first | (refine wpList_load_mid rfl 50 (.tmp 11) rfl b (o+k*7) (by kernel_rfl) xs _ r1 Tryz.underlying50 rfl hi18 ?_) | (refine zao rfl rfl 50 rfl (.tmp 6) (.tmp 12) rfl zfm (zem _) rfl xs.toArray (by kernel_rfl) (by kernel_rfl) (by rw[List.size_toArray,hl1];rfl) (by rw[List.size_toArray];exact hi18) (by simpa using ho1) ?_))
   have rN:=bN.range;generalize (wr.alloc (.cells xs.toArray 50))=w3 at *;generalize wr.heap.size=B9 at *;go_wp2_with (refine wpList_load_mid rfl 50 (.tmp 6) rfl B9 0 (by kernel_rfl) xs _ rN Tryz.underlying50 rfl hi18 ?_)
   refine Calls.mono hcl ?_;rintro _ w4 ⟨rfl,hy,hn⟩;clear hcl bN rN r1;have HAS:Hid ((ans k=true→(∀i,i<k+1→ans i=true)∧I (k+1) w4)∧(ans k=false→decide (∀i,i<len→ans i=true)=false∧J w4∧¬∀i,i<len→ans i=true)):=by
    refine⟨fun h=>⟨fun i hi=>?_,hy h⟩,fun h=>⟨?_,hn h,fun hh=>by rw[hh k hlt] at h;cases h⟩⟩
    ·rcases Nat.lt_or_ge i k with h2 | h2
     ·exact HK.out i h2
     ·have:i=k:=by omega
      subst this;exact h
    ·rw[decide_eq_false_iff_not];intro hh;rw[hh k hlt] at h;cases h
   clear hy hn;generalize ans k=bb at *;cases bb
   ·go_wp2;go_ret;have:=HAS.out.2 (by simp);exact⟨zab this.1.symm,fun h=>absurd h this.2.2,fun _=>this.2.1⟩
   ·go_wp2;go_roundw
    case rel=>exact⟨k+1,by omega,by go_num,(HAS.out.1 (by simp)).1,(HAS.out.1 (by simp)).2⟩
    case measure=>simp[intOf];omega
  ·have e2:k=len:=by omega
   subst e2;have d:¬(k:Int)<k:=by omega
   go_wp2;go_ret;exact⟨zab (by symm;rw[decide_eq_true_eq];exact HA.out),fun _=>HI.out,fun ⟨i,hi,h⟩=>by rw[HA.out i hi] at h;cases h⟩
def z_fn:List Value:=[.int .i64 0,.int .i64 0,.slice none 0 0,.int .i64 0,.int .i64 0,.int .i64 0,.int .i64 0,.slice none 0 0,.int .i64 0,.int .i64 0,.slice none 0 0,.int .i64 0,.int .i64 0,.int .i64 0,.slice none 0 0,.slice none 0 0,.slice none 0 0,.slice none 0 0]
theorem alloc_fn (w:World):(Instr.alloc 44 true (.tuple #[])).run Tryz.prog w=.ok (.pointer (some ⟨w.heap.size,0,none⟩)) (w.alloc (.cells z_fn.toArray 44)):=by
 have hz:(Tryz.prog.info? 44).map (·.zero)=some (some (.agg z_fn.toArray)):=by kernel_rfl
 cases hq:Tryz.prog.info? 44 with
 | none=>rw[hq] at hz;simp at hz
 | some i =>
  rw[hq] at hz;simp at hz
  simp[Instr.alloc,newVar,newRow,zeroValue,typeInfo,hq,hz,Value.cells,z_fn]
theorem all_fn (q:Value)(I:Nat→World→Prop)(J:World→Prop)(ans:Nat→Bool)(ao:Option Addr)(b o len cap:Nat)(vs:Nat→List Value)(w:World)(hnil:0<len→ao=some ⟨b,o,none⟩)(hbd:len≤9223372036854775807)
  (hz:∀i,i<len→(vs i).length=18) (h1:∀i,i<len→(vs i).all (·.oneCell')=true) (hrow:∀i u,i<len→I i u→u.rangeAt b (o+i*18) (vs i)) (hgrow:∀i u u',i≤len→I i u→Below u.heap.size u u'→I i u')
  (hcall:∀i u,i<len→I i u→Calls Tryz.prog 118 #[q,.agg (vs i).toArray] u fun e u'=>e=.returned (.bool (ans i))∧(ans i=true→I (i+1) u')∧(ans i=false→J u')) (hI:I 0 w) :
  Calls Tryz.prog 117 #[.slice ao len cap,.func (.func 118) #[q] #[]] w fun e w'=>AllR I J len ans e w':=by
 have HI:=hyd hI;have HH:=hyd (show (∀i,i<len→(vs i).length=18)∧(∀i,i<len→(vs i).all (·.oneCell')=true)∧(∀i u,i<len→I i u→u.rangeAt b (o+i*18) (vs i))∧(∀i u u',i≤len→I i u→Below u.heap.size u u'→I i u') from ⟨hz,h1,hrow,hgrow⟩);have HC:=hyd hcall;clear hI hz h1 hrow hgrow hcall;go_enter Tryz.func117,Tryz.ntmps117
 go_wp2;go_loopw [9] (fun i wr=>∃(k:Nat),k≤len∧i=.int .i64 k∧(∀i,i<k→ans i=true)∧I k wr) (fun i _=>len - (intOf i).toNat)
 case atStart=>exact⟨0,Nat.zero_le _,rfl,fun i hi=>absurd hi (Nat.not_lt_zero _),HI.out⟩
 case round =>
  clear HI;obtain⟨k,hk,rfl,hall,hB⟩:=hrel;have HA:=hyd hall;have HI:=hyd hB;clear hall hB;by_cases hlt:k<len
  ·have ij:(k:Int)<len:=by omega
   have a0:=hnil (by omega);subst a0;have r1:wr.rangeAt b (o+k*18) (vs k):=HH.out.2.2.1 k wr hlt HI.out;have hl1:=HH.out.1 k hlt;have ho1:=HH.out.2.1 k hlt;have hcl:Calls Tryz.prog 118 #[q,.agg (vs k).toArray] (wr.alloc (.cells (vs k).toArray 44)) _:=HC.out k _ hlt (HH.out.2.2.2 k wr _ hk HI.out (zac wr _));have HK:=hyd (show ∀i,i<k→ans i=true from HA.out);have bN:Blk (wr.alloc (.cells (vs k).toArray 44)) wr.heap.size (vs k) 44:=Blk.new wr _ _;clear HI;generalize vs k=xs at *;have hi18:(Tryz.prog.info? 44).map (·.size)=some xs.length:=by rw[hl1];kernel_rfl
   go_upto_region 4 with (first | (refine wpList_load_mid rfl 44 (.tmp 11) rfl b (o+k*18) (by kernel_rfl) xs _ r1 Tryz.underlying44 rfl hi18 ?_) | (refine zao rfl rfl 44 rfl (.tmp 6) (.tmp 12) rfl z_fn (alloc_fn _) rfl xs.toArray (by kernel_rfl) (by kernel_rfl) (by rw[List.size_toArray,hl1];rfl) (by rw[List.size_toArray];exact hi18) (by simpa using ho1) ?_))
   have rN:=bN.range;generalize (wr.alloc (.cells xs.toArray 44))=w3 at *;generalize wr.heap.size=B9 at *;go_wp2_with (refine wpList_load_mid rfl 44 (.tmp 6) rfl B9 0 (by kernel_rfl) xs _ rN Tryz.underlying44 rfl hi18 ?_)
   refine Calls.mono hcl ?_;rintro _ w4 ⟨rfl,hy,hn⟩;clear hcl bN rN r1;have HAS:Hid ((ans k=true→(∀i,i<k+1→ans i=true)∧I (k+1) w4)∧(ans k=false→decide (∀i,i<len→ans i=true)=false∧J w4∧¬∀i,i<len→ans i=true)):=by
    refine⟨fun h=>⟨fun i hi=>?_,hy h⟩,fun h=>⟨?_,hn h,fun hh=>by rw[hh k hlt] at h;cases h⟩⟩
    ·rcases Nat.lt_or_ge i k with h2 | h2
     ·exact HK.out i h2
     ·have:i=k:=by omega
      subst this;exact h
    ·rw[decide_eq_false_iff_not];intro hh;rw[hh k hlt] at h;cases h
   clear hy hn;generalize ans k=bb at *;cases bb
   ·go_wp2;go_ret;have:=HAS.out.2 (by simp);exact⟨zab this.1.symm,fun h=>absurd h this.2.2,fun _=>this.2.1⟩
   ·go_wp2;go_roundw
    case rel=>exact⟨k+1,by omega,by go_num,(HAS.out.1 (by simp)).1,(HAS.out.1 (by simp)).2⟩
    case measure=>simp[intOf];omega
  ·have e2:k=len:=by omega
   subst e2;have d:¬(k:Int)<k:=by omega
   go_wp2;go_ret;exact⟨zab (by symm;rw[decide_eq_true_eq];exact HA.out),fun _=>HI.out,fun ⟨i,hi,h⟩=>by rw[HA.out i hi] at h;cases h⟩
def z_hn:List Value:=[.int .i64 0,.int .i64 0,.int .i64 0]
theorem ze6 (w:World):(Instr.alloc 123 true (.tuple #[])).run Tryz.prog w=.ok (.pointer (some ⟨w.heap.size,0,none⟩)) (w.alloc (.cells z_hn.toArray 123)):=by
 have hz:(Tryz.prog.info? 123).map (·.zero)=some (some (.agg z_hn.toArray)):=by kernel_rfl
 cases hq:Tryz.prog.info? 123 with
 | none=>rw[hq] at hz;simp at hz
 | some i =>
  rw[hq] at hz;simp at hz
  simp[Instr.alloc,newVar,newRow,zeroValue,typeInfo,hq,hz,Value.cells,z_hn]
theorem all_hn (I:Nat→World→Prop)(J:World→Prop)(ans:Nat→Bool)(ao:Option Addr)(b o len cap:Nat)(vs:Nat→List Value)(w:World)(hnil:0<len→ao=some ⟨b,o,none⟩)(hbd:len≤9223372036854775807)
  (hz:∀i,i<len→(vs i).length=3) (h1:∀i,i<len→(vs i).all (·.oneCell')=true) (hrow:∀i u,i<len→I i u→u.rangeAt b (o+i*3) (vs i)) (hgrow:∀i u u',i≤len→I i u→Below u.heap.size u u'→I i u')
  (hcall:∀i u,i<len→I i u→Calls Tryz.prog 169 #[.agg (vs i).toArray] u fun e u'=>e=.returned (.bool (ans i))∧(ans i=true→I (i+1) u')∧(ans i=false→J u')) (hI:I 0 w) :
  Calls Tryz.prog 168 #[.slice ao len cap,.func (.func 169) #[] #[]] w fun e w'=>AllR I J len ans e w':=by
 have HI:=hyd hI;have HH:=hyd (show (∀i,i<len→(vs i).length=3)∧(∀i,i<len→(vs i).all (·.oneCell')=true)∧(∀i u,i<len→I i u→u.rangeAt b (o+i*3) (vs i))∧(∀i u u',i≤len→I i u→Below u.heap.size u u'→I i u') from ⟨hz,h1,hrow,hgrow⟩);have HC:=hyd hcall;clear hI hz h1 hrow hgrow hcall;go_enter Tryz.func168,Tryz.ntmps168
 go_wp2;go_loopw [9] (fun i wr=>∃(k:Nat),k≤len∧i=.int .i64 k∧(∀i,i<k→ans i=true)∧I k wr) (fun i _=>len - (intOf i).toNat)
 case atStart=>exact⟨0,Nat.zero_le _,rfl,fun i hi=>absurd hi (Nat.not_lt_zero _),HI.out⟩
 case round =>
  clear HI;obtain⟨k,hk,rfl,hall,hB⟩:=hrel;have HA:=hyd hall;have HI:=hyd hB;clear hall hB;by_cases hlt:k<len
  ·have ij:(k:Int)<len:=by omega
   have a0:=hnil (by omega);subst a0;have r1:wr.rangeAt b (o+k*3) (vs k):=HH.out.2.2.1 k wr hlt HI.out;have hl1:=HH.out.1 k hlt;have ho1:=HH.out.2.1 k hlt;have hcl:Calls Tryz.prog 169 #[.agg (vs k).toArray] (wr.alloc (.cells (vs k).toArray 123)) _:=HC.out k _ hlt (HH.out.2.2.2 k wr _ hk HI.out (zac wr _));have HK:=hyd (show ∀i,i<k→ans i=true from HA.out);have bN:Blk (wr.alloc (.cells (vs k).toArray 123)) wr.heap.size (vs k) 123:=Blk.new wr _ _;clear HI;generalize vs k=xs at *;have hi18:(Tryz.prog.info? 123).map (·.size)=some xs.length:=by rw[hl1];kernel_rfl
   go_upto_region 4 with (first | (refine wpList_load_mid rfl 123 (.tmp 11) rfl b (o+k*3) (by kernel_rfl) xs _ r1 Tryz.underlying123 rfl hi18 ?_) | (refine zao rfl rfl 123 rfl (.tmp 6) (.tmp 12) rfl z_hn (ze6 _) rfl xs.toArray (by kernel_rfl) (by kernel_rfl) (by rw[List.size_toArray,hl1];rfl) (by rw[List.size_toArray];exact hi18) (by simpa using ho1) ?_))
   have rN:=bN.range;generalize (wr.alloc (.cells xs.toArray 123))=w3 at *;generalize wr.heap.size=B9 at *;go_wp2_with (refine wpList_load_mid rfl 123 (.tmp 6) rfl B9 0 (by kernel_rfl) xs _ rN Tryz.underlying123 rfl hi18 ?_)
   refine Calls.mono hcl ?_;rintro _ w4 ⟨rfl,hy,hn⟩;clear hcl bN rN r1;have HAS:Hid ((ans k=true→(∀i,i<k+1→ans i=true)∧I (k+1) w4)∧(ans k=false→decide (∀i,i<len→ans i=true)=false∧J w4∧¬∀i,i<len→ans i=true)):=by
    refine⟨fun h=>⟨fun i hi=>?_,hy h⟩,fun h=>⟨?_,hn h,fun hh=>by rw[hh k hlt] at h;cases h⟩⟩
    ·rcases Nat.lt_or_ge i k with h2 | h2
     ·exact HK.out i h2
     ·have:i=k:=by omega
      subst this;exact h
    ·rw[decide_eq_false_iff_not];intro hh;rw[hh k hlt] at h;cases h
   clear hy hn;generalize ans k=bb at *;cases bb
   ·go_wp2;go_ret;have:=HAS.out.2 (by simp);exact⟨zab this.1.symm,fun h=>absurd h this.2.2,fun _=>this.2.1⟩
   ·go_wp2;go_roundw
    case rel=>exact⟨k+1,by omega,by go_num,(HAS.out.1 (by simp)).1,(HAS.out.1 (by simp)).2⟩
    case measure=>simp[intOf];omega
  ·have e2:k=len:=by omega
   subst e2;have d:¬(k:Int)<k:=by omega
   go_wp2;go_ret;exact⟨zab (by symm;rw[decide_eq_true_eq];exact HA.out),fun _=>HI.out,fun ⟨i,hi,h⟩=>by rw[HA.out i hi] at h;cases h⟩
def z_rn:List Value:=[.int .i64 0,.int .i64 0,.slice none 0 0]
theorem zi6 (w:World):(Instr.alloc 53 true (.tuple #[])).run Tryz.prog w=.ok (.pointer (some ⟨w.heap.size,0,none⟩)) (w.alloc (.cells z_rn.toArray 53)):=by
 have hz:(Tryz.prog.info? 53).map (·.zero)=some (some (.agg z_rn.toArray)):=by kernel_rfl
 cases hq:Tryz.prog.info? 53 with
 | none=>rw[hq] at hz;simp at hz
 | some i =>
  rw[hq] at hz;simp at hz
  simp[Instr.alloc,newVar,newRow,zeroValue,typeInfo,hq,hz,Value.cells,z_rn]
theorem all_rn (I:Nat→World→Prop)(J:World→Prop)(ans:Nat→Bool)(ao:Option Addr)(b o len cap:Nat)(vs:Nat→List Value)(w:World)(hnil:0<len→ao=some ⟨b,o,none⟩)(hbd:len≤9223372036854775807)
  (hz:∀i,i<len→(vs i).length=3) (h1:∀i,i<len→(vs i).all (·.oneCell')=true) (hrow:∀i u,i<len→I i u→u.rangeAt b (o+i*3) (vs i)) (hgrow:∀i u u',i≤len→I i u→Below u.heap.size u u'→I i u')
  (hcall:∀i u,i<len→I i u→Calls Tryz.prog 171 #[.agg (vs i).toArray] u fun e u'=>e=.returned (.bool (ans i))∧(ans i=true→I (i+1) u')∧(ans i=false→J u')) (hI:I 0 w) :
  Calls Tryz.prog 170 #[.slice ao len cap,.func (.func 171) #[] #[]] w fun e w'=>AllR I J len ans e w':=by
 have HI:=hyd hI;have HH:=hyd (show (∀i,i<len→(vs i).length=3)∧(∀i,i<len→(vs i).all (·.oneCell')=true)∧(∀i u,i<len→I i u→u.rangeAt b (o+i*3) (vs i))∧(∀i u u',i≤len→I i u→Below u.heap.size u u'→I i u') from ⟨hz,h1,hrow,hgrow⟩);have HC:=hyd hcall;clear hI hz h1 hrow hgrow hcall;go_enter Tryz.func170,Tryz.ntmps170
 go_wp2;go_loopw [9] (fun i wr=>∃(k:Nat),k≤len∧i=.int .i64 k∧(∀i,i<k→ans i=true)∧I k wr) (fun i _=>len - (intOf i).toNat)
 case atStart=>exact⟨0,Nat.zero_le _,rfl,fun i hi=>absurd hi (Nat.not_lt_zero _),HI.out⟩
 case round =>
  clear HI;obtain⟨k,hk,rfl,hall,hB⟩:=hrel;have HA:=hyd hall;have HI:=hyd hB;clear hall hB;by_cases hlt:k<len
  ·have ij:(k:Int)<len:=by omega
   have a0:=hnil (by omega);subst a0;have r1:wr.rangeAt b (o+k*3) (vs k):=HH.out.2.2.1 k wr hlt HI.out;have hl1:=HH.out.1 k hlt;have ho1:=HH.out.2.1 k hlt;have hcl:Calls Tryz.prog 171 #[.agg (vs k).toArray] (wr.alloc (.cells (vs k).toArray 53)) _:=HC.out k _ hlt (HH.out.2.2.2 k wr _ hk HI.out (zac wr _));have HK:=hyd (show ∀i,i<k→ans i=true from HA.out);have bN:Blk (wr.alloc (.cells (vs k).toArray 53)) wr.heap.size (vs k) 53:=Blk.new wr _ _;clear HI;generalize vs k=xs at *;have hi18:(Tryz.prog.info? 53).map (·.size)=some xs.length:=by rw[hl1];kernel_rfl
   go_upto_region 4 with (first | (refine wpList_load_mid rfl 53 (.tmp 11) rfl b (o+k*3) (by kernel_rfl) xs _ r1 Tryz.underlying53 rfl hi18 ?_) | (refine zao rfl rfl 53 rfl (.tmp 6) (.tmp 12) rfl z_rn (zi6 _) rfl xs.toArray (by kernel_rfl) (by kernel_rfl) (by rw[List.size_toArray,hl1];rfl) (by rw[List.size_toArray];exact hi18) (by simpa using ho1) ?_))
   have rN:=bN.range;generalize (wr.alloc (.cells xs.toArray 53))=w3 at *;generalize wr.heap.size=B9 at *;go_wp2_with (refine wpList_load_mid rfl 53 (.tmp 6) rfl B9 0 (by kernel_rfl) xs _ rN Tryz.underlying53 rfl hi18 ?_)
   refine Calls.mono hcl ?_;rintro _ w4 ⟨rfl,hy,hn⟩;clear hcl bN rN r1;have HAS:Hid ((ans k=true→(∀i,i<k+1→ans i=true)∧I (k+1) w4)∧(ans k=false→decide (∀i,i<len→ans i=true)=false∧J w4∧¬∀i,i<len→ans i=true)):=by
    refine⟨fun h=>⟨fun i hi=>?_,hy h⟩,fun h=>⟨?_,hn h,fun hh=>by rw[hh k hlt] at h;cases h⟩⟩
    ·rcases Nat.lt_or_ge i k with h2 | h2
     ·exact HK.out i h2
     ·have:i=k:=by omega
      subst this;exact h
    ·rw[decide_eq_false_iff_not];intro hh;rw[hh k hlt] at h;cases h
   clear hy hn;generalize ans k=bb at *;cases bb
   ·go_wp2;go_ret;have:=HAS.out.2 (by simp);exact⟨zab this.1.symm,fun h=>absurd h this.2.2,fun _=>this.2.1⟩
   ·go_wp2;go_roundw
    case rel=>exact⟨k+1,by omega,by go_num,(HAS.out.1 (by simp)).1,(HAS.out.1 (by simp)).2⟩
    case measure=>simp[intOf];omega
  ·have e2:k=len:=by omega
   subst e2;have d:¬(k:Int)<k:=by omega
   go_wp2;go_ret;exact⟨zab (by symm;rw[decide_eq_true_eq];exact HA.out),fun _=>HI.out,fun ⟨i,hi,h⟩=>by rw[HA.out i hi] at h;cases h⟩
theorem zwd (ans:Int→Bool)(r:Rw Int)(w:World)(hr:NmAt w r)(hcall:∀a u,Calls Tryz.prog 210 #[.int .i64 a] u fun e u'=>e=.returned (.bool (ans a))∧Below u.heap.size u u') :
  Calls Tryz.prog 211 #[.slice r.ao r.len r.cap,.func (.func 210) #[] #[]] w fun e w'=>e=.returned (.bool (decide (∀i,i<r.len→ans (r.x i)=true)))∧Below w.heap.size w w':=by
 have hnil:=hr.nil;have hbd:=hr.bound;have HI:=hyd (Below.refl w.heap.size w);have HR:=hyd hr;have HC:=hyd hcall;clear hr hcall;go_enter Tryz.func211,Tryz.ntmps211
 go_wp2;go_loopw [9] (fun i wr=>∃(k:Nat),k≤r.len∧i=.int .i64 k∧(∀i,i<k→ans (r.x i)=true)∧Below w.heap.size w wr) (fun i _=>r.len - (intOf i).toNat)
 case atStart=>exact⟨0,Nat.zero_le _,rfl,fun i hi=>absurd hi (Nat.not_lt_zero _),HI.out⟩
 case round =>
  clear HI;obtain⟨k,hk,rfl,hall,hB⟩:=hrel;have HA:=hyd hall;have HI:=hyd hB;clear hall hB;by_cases hlt:k<r.len
  ·have ij:(k:Int)<r.len:=by omega
   have a0:=hnil (by omega);rw[a0];have r1:wr.cell? ⟨r.b,r.o+k,none⟩=some (.int .i64 (r.x k)):=by have:=zaf (HR.out.row k hlt) HI.out 0 _ rfl;simpa using this
   have hcl:=HC.out (r.x k) wr;go_wp2_with fail
   refine Calls.mono hcl ?_;rintro _ w4 ⟨rfl,hb4⟩;have HB:=hyd (Below.next HI.out hb4);have HAS:Hid ((ans (r.x k)=true→(∀i,i<k+1→ans (r.x i)=true))∧(ans (r.x k)=false→decide (∀i,i<r.len→ans (r.x i)=true)=false)):=by
    refine⟨fun h i hi=>?_,fun h=>?_⟩
    ·rcases Nat.lt_or_ge i k with h2 | h2
     ·exact HA.out i h2
     ·have:i=k:=by omega
      subst this;exact h
    ·rw[decide_eq_false_iff_not];intro hh;rw[hh k hlt] at h;cases h
   clear hcl hb4 HI r1;generalize ans (r.x k)=bb at *;cases bb
   ·go_wp2;go_ret;exact⟨zab (HAS.out.2 (by simp)).symm,HB.out⟩
   ·go_wp2;go_roundw
    case rel=>exact⟨k+1,by omega,by go_num,HAS.out.1 (by simp),HB.out⟩
    case measure=>simp[intOf];omega
  ·have e2:k=r.len:=by omega
   subst e2;have d:¬(r.len:Int)<r.len:=by omega
   go_wp2;go_ret;exact⟨zab (by symm;rw[decide_eq_true_eq];exact HA.out),HI.out⟩
theorem zbx {P:Nat→Prop}{j:Nat}(h:∀i,i<j→P i)(hj:P j):∀i,i<j+1→P i:=fun i hi=>by
 rcases Nat.lt_or_ge i j with h2 | h2
 ·exact h i h2
 ·have:i=j:=by omega
  subst this;exact hj
theorem zkr (f:Cf)(w:World)(hf:f.At w):Calls Tryz.prog 79 #[.agg f.vs.toArray] w fun e w'=>e=.returned (.bool f.hanB)∧Below w.heap.size w w':=by
 have B1:=zac w (.cells f.vs.toArray 44);have b:=Blk.new w f.vs 44;have H1:=hyd (show Below w.heap.size w _∧_ from ⟨B1,b⟩);have HD:=hyd hf;have HA:Hid (f.hanB=decide (∀i,i<f.hd.len→(f.hd.x i).hold f.cd.len=true)):=rfl;have hbd:=hf.hd.bound;have hnil:=hf.hd.nil;generalize f.hanB=F at *;have c15:=b.cell 15 rfl;clear B1 b hf;generalize hw0:w.alloc (.cells f.vs.toArray 44)=u0 at *;have HN:Hid (∀(j:Nat) (wr:World),j<f.hd.len→Below w.heap.size w wr→wr.rangeAt f.hd.b (f.hd.o+j*3) (f.hd.x j).vs):=fun j wr hj hb=>(HD.out.hd.kept hb).row j hj;have HNo:Hid (∀j,j<f.hd.len→(f.hd.x j).hold f.cd.len=false→F=false):=fun j hj h=>by
  rw[HA.out,decide_eq_false_iff_not];exact fun hh=>by have:=hh j hj;rw[h] at this;cases this
 by_cases h0:f.hd.len=0
 ·have HE:Hid (F=true):=by show _=_;rw[HA.out,decide_eq_true_eq];intro i hi;omega
  have i0:¬(0:Int)<f.hd.len:=by omega
  clear h0;go_enter Tryz.func79,Tryz.ntmps79
  go_wp2;go_loopw [8] (fun i wr=>i=.int .i64 0∧Below w.heap.size w wr) (fun _ _=>0)
  case atStart=>exact⟨rfl,H1.out.1⟩
  case round =>
   obtain⟨rfl,hb⟩:=hrel;have HB:=hyd hb;clear hb;go_wp2;go_ret;exact⟨zab HE.out.symm,HB.out⟩
 ·have a0:=hnil (by omega);rw[a0] at c15;have HA0:=hyd a0;clear a0 hnil;go_enter Tryz.func79,Tryz.ntmps79
  go_wp2;clear hw0;go_loopw [8] (fun i wr=>∃(j:Nat),j≤f.hd.len∧i=.int .i64 j∧(Below w.heap.size w wr∧Blk wr w.heap.size f.vs 44)∧(∀i,i<j→(f.hd.x i).hold f.cd.len=true)) (fun i _=>f.hd.len - (intOf i).toNat)
  case atStart=>exact⟨0,Nat.zero_le _,rfl,H1.out,fun i hi=>absurd hi (Nat.not_lt_zero _)⟩
  case round =>
   clear H1 c15;obtain⟨j,hj,rfl,hBl,hall⟩:=hrel;have HB:=hyd hBl;have HL:=hyd hall;clear hBl hall;by_cases hlt:j<f.hd.len
   ·have ij:(j:Int)<f.hd.len:=by omega
    have r0:=HN.out j wr hlt HB.out.1;have HNo2:=hyd (HNo.out j hlt);have HY:=hyd (zbx (P:=fun i=>(f.hd.x i).hold f.cd.len=true) HL.out);have HH:Hid ((f.hd.x j).hold f.cd.len=((decide ((f.hd.x j).fr<(f.hd.x j).tw_)&&decide ((f.hd.x j).tw_≤(f.hd.x j).at_))&&decide ((f.hd.x j).at_<f.cd.len))):=rfl;have B2:=zac wr (.cells (f.hd.x j).vs.toArray 123);have bH:=Blk.new wr (f.hd.x j).vs 123;have HB2:=hyd (show Below w.heap.size w _∧Blk _ w.heap.size f.vs 44 from ⟨Below.next HB.out.1 B2,HB.out.2.kept B2⟩);have c14:=HB2.out.2.cell 14 rfl;have d0:=bH.cell 0 rfl;have d1:=bH.cell 1 rfl;have d2:=bH.cell 2 rfl;clear B2 bH HB;generalize hh:f.hd.x j=h at *;go_upto_region 4 with (first | (refine wpList_load_mid rfl 123 (.tmp 10) rfl f.hd.b (f.hd.o+j*3) (by kernel_rfl) h.vs _ r0 Tryz.underlying123 rfl (by kernel_rfl) ?_) | (refine zao rfl rfl 123 rfl (.tmp 4) (.tmp 11) rfl z_hn (ze6 _) rfl h.vs.toArray (by kernel_rfl) (by kernel_rfl) rfl (by kernel_rfl) (by simpa using h.vs_one) ?_))
    clear hh r0;generalize wr.alloc (.cells h.vs.toArray 123)=u2 at *;generalize wr.heap.size=BH at *;generalize hq:h.hold f.cd.len=q at *;clear hq;by_cases k1:h.fr<h.tw_
    ·by_cases k2:h.tw_≤h.at_
     ·by_cases k3:h.at_<(f.cd.len:Int)
      ·have HE:Hid (q=true):=by show _=_;rw[HH.out,decide_eq_true k1,decide_eq_true k2,decide_eq_true k3];rfl
       have HE2:=hyd (HY.out (by show _=_;rw[HE.out]));go_wp2;go_roundw
       case rel=>exact⟨j+1,by omega,by go_num,HB2.out,HE2.out⟩
       case measure=>simp[intOf];omega
      ·have HE:Hid (q=false):=by show _=_;rw[HH.out,decide_eq_true k1,decide_eq_true k2,decide_eq_false k3];rfl
       have HE2:=hyd (HNo2.out HE.out);go_wp2;go_ret;exact⟨zab HE2.out.symm,HB2.out.1⟩
     ·have HE:Hid (q=false):=by show _=_;rw[HH.out,decide_eq_true k1,decide_eq_false k2];rfl
      have HE2:=hyd (HNo2.out HE.out);go_wp2;go_ret;exact⟨zab HE2.out.symm,HB2.out.1⟩
    ·have HE:Hid (q=false):=by show _=_;rw[HH.out,decide_eq_false k1];rfl
     have HE2:=hyd (HNo2.out HE.out);go_wp2;go_ret;exact⟨zab HE2.out.symm,HB2.out.1⟩
   ·have e2:¬(j:Int)<f.hd.len:=by omega
    have HE:Hid (F=true):=by show _=_;rw[HA.out,decide_eq_true_eq];intro i hi;exact HL.out i (by omega)
    go_wp2;go_ret;exact⟨zab HE.out.symm,HB.out.1⟩
theorem zlv (f:Cf)(w:World)(hf:f.At w):Calls Tryz.prog 80 #[.agg f.vs.toArray] w fun e w'=>e=.returned (.bool f.regB)∧Below w.heap.size w w':=by
 have B1:=zac w (.cells f.vs.toArray 44);have b:=Blk.new w f.vs 44;have H1:=hyd (show Below w.heap.size w _∧_ from ⟨B1,b⟩);have HD:=hyd hf;have HA:Hid (f.regB=decide (∀i,i<f.rg.len→((f.ah i<(f.rg.x i).at_∧(f.rg.x i).at_<f.cd.len)∧(f.rg.x i).joinB f.cd.len=true)∧(f.rg.x i).plcB f.cd.len=true)):=rfl;have hbd:=hf.rg.bound;have hnil:=hf.rg.nil;generalize f.regB=F at *;have c17:=b.cell 17 rfl;clear B1 b hf;generalize hw0:w.alloc (.cells f.vs.toArray 44)=u0 at *;have HN:Hid (∀(j:Nat) (wr:World),j<f.rg.len→Below w.heap.size w wr→wr.rangeAt f.rg.b (f.rg.o+j*3) (f.rg.x j).vs):=fun j wr hj hb=>(HD.out.rg.kept hb).row j hj;have HNo:Hid (∀j,j<f.rg.len→¬(((f.ah j<(f.rg.x j).at_∧(f.rg.x j).at_<f.cd.len)∧(f.rg.x j).joinB f.cd.len=true)∧(f.rg.x j).plcB f.cd.len=true)→F=false):=fun j hj h=>by
  rw[HA.out,decide_eq_false_iff_not];exact fun hh=>h (hh j hj)
 by_cases h0:f.rg.len=0
 ·have HE:Hid (F=true):=by show _=_;rw[HA.out,decide_eq_true_eq];intro i hi;omega
  have i0:¬(0:Int)<f.rg.len:=by omega
  clear h0;go_enter Tryz.func80,Tryz.ntmps80
  go_wp2;go_loopw [9] (fun i wr=>i=.int .i64 0∧Below w.heap.size w wr) (fun _ _=>0)
  case atStart=>exact⟨rfl,H1.out.1⟩
  case round =>
   obtain⟨rfl,hb⟩:=hrel;have HB:=hyd hb;clear hb;go_wp2;go_ret;exact⟨zab HE.out.symm,HB.out⟩
 ·have a0:=hnil (by omega);rw[a0] at c17;have HA0:=hyd a0;clear a0 hnil;go_enter Tryz.func80,Tryz.ntmps80
  go_wp2;clear hw0;go_loopw [3,9] (fun a i wr=>∃(j:Nat),j≤f.rg.len∧a=.int .i64 (f.ah j)∧i=.int .i64 j∧(Below w.heap.size w wr∧Blk wr w.heap.size f.vs 44)∧(∀i,i<j→((f.ah i<(f.rg.x i).at_∧(f.rg.x i).at_<f.cd.len)∧(f.rg.x i).joinB f.cd.len=true)∧(f.rg.x i).plcB f.cd.len=true)) (fun _ i _=>f.rg.len - (intOf i).toNat)
  case atStart=>exact⟨0,Nat.zero_le _,rfl,rfl,H1.out,fun i hi=>absurd hi (Nat.not_lt_zero _)⟩
  case round =>
   clear H1 c17;obtain⟨j,hj,rfl,rfl,hBl,hall⟩:=hrel;have HB:=hyd hBl;have HL:=hyd hall;clear hBl hall;by_cases hlt:j<f.rg.len
   ·have ij:(j:Int)<f.rg.len:=by omega
    have r0:=HN.out j wr hlt HB.out.1;have HNo2:=hyd (HNo.out j hlt);have HY:=hyd (zbx (P:=fun i=>((f.ah i<(f.rg.x i).at_∧(f.rg.x i).at_<f.cd.len)∧(f.rg.x i).joinB f.cd.len=true)∧(f.rg.x i).plcB f.cd.len=true) HL.out);have HJ:Hid (f.ah (j+1)=(f.rg.x j).at_):=rfl;have B2:=zac wr (.cells (f.rg.x j).vs.toArray 53);have bH:=Blk.new wr (f.rg.x j).vs 53;have HX:=hyd (Rn.At.kept (Below.next HB.out.1 B2) (HD.out.rg.each j hlt));have HB2:=hyd (show Below w.heap.size w _∧Blk _ w.heap.size f.vs 44∧Blk _ wr.heap.size (f.rg.x j).vs 53 from ⟨Below.next HB.out.1 B2,HB.out.2.kept B2,bH⟩);clear B2 bH HB;generalize f.ah j=q at *;generalize hh:f.rg.x j=x at *;go_upto_region 5 with (first | (refine wpList_load_mid rfl 53 (.tmp 11) rfl f.rg.b (f.rg.o+j*3) (by kernel_rfl) x.vs _ r0 Tryz.underlying53 rfl (by kernel_rfl) ?_) | (refine zao rfl rfl 53 rfl (.tmp 5) (.tmp 12) rfl z_rn (zi6 _) rfl x.vs.toArray (by kernel_rfl) (by kernel_rfl) rfl (by kernel_rfl) (by simpa using x.vs_one) ?_))
    clear hh r0;generalize wr.alloc (.cells x.vs.toArray 53)=u2 at *;generalize wr.heap.size=BH at *;have c14:=HB2.out.2.1.cell 14 rfl;have d0:=HB2.out.2.2.cell 0 rfl;have d1:=HB2.out.2.2.cell 1 rfl;have d2:=HB2.out.2.2.cell 2 rfl;by_cases k1:q<x.at_
    ·have l1:¬x.at_≤q:=by omega
     by_cases k2:x.at_<(f.cd.len:Int)
     ·have l2:¬(f.cd.len:Int)≤x.at_:=by omega
      have HK:=hyd (show q<x.at_∧x.at_<(f.cd.len:Int) from ⟨k1,k2⟩);have hc:=zqa x f.cd.len u2;generalize x.joinB f.cd.len=jb at *;clear k1 k2;go_wp2_with fail
      refine hc.mono ?_;rintro _ u3 ⟨rfl,hb3⟩;have HB3:=hyd (show Below w.heap.size w _∧Blk _ w.heap.size f.vs 44∧Blk _ BH x.vs 53 from ⟨Below.next HB2.out.1 hb3,HB2.out.2.1.kept hb3,HB2.out.2.2.kept hb3⟩);have HX3:=hyd (Rn.At.kept hb3 HX.out);clear hc hb3 c14 d0 d1 d2 HX HB2;cases jb
      ·have HE:=hyd (HNo2.out (fun h=>by have:=h.1.2;cases this))
       go_wp2;go_ret;exact⟨zab HE.out.symm,HB3.out.1⟩
      ·have c14:=HB3.out.2.1.cell 14 rfl;have d0:=HB3.out.2.2.cell 0 rfl;have d1:=HB3.out.2.2.cell 1 rfl;have d2:=HB3.out.2.2.cell 2 rfl;have hc:=zm7 x f.cd.len u3 HX3.out;generalize x.plcB f.cd.len=pb at *;go_wp2_with fail
       refine hc.mono ?_;rintro _ u4 ⟨rfl,hb4⟩;have HB4:=hyd (show Below w.heap.size w _∧Blk _ w.heap.size f.vs 44∧Blk _ BH x.vs 53 from ⟨Below.next HB3.out.1 hb4,HB3.out.2.1.kept hb4,HB3.out.2.2.kept hb4⟩);clear hc hb4 c14 d0 d1 d2 HX3 HB3;have d0:=HB4.out.2.2.cell 0 rfl;cases pb
       ·have HE:=hyd (HNo2.out (fun h=>by have:=h.2;cases this))
        go_wp2;go_ret;exact⟨zab HE.out.symm,HB4.out.1⟩
       ·have HE:=hyd (HY.out (by have h:=HK.out;simpa using h))
        go_wp2;go_roundw
        case rel=>exact⟨j+1,by omega,by rw[HJ.out],by go_num,⟨HB4.out.1,HB4.out.2.1⟩,HE.out⟩
        case measure=>simp[intOf];omega
     ·have l2:(f.cd.len:Int)≤x.at_:=by omega
      have HE:=hyd (HNo2.out (fun h=>k2 h.1.1.2));clear k1 k2;go_wp2;go_ret;exact⟨zab HE.out.symm,HB2.out.1⟩
    ·have l1:x.at_≤q:=by omega
     have HE:=hyd (HNo2.out (fun h=>k1 h.1.1.1));clear k1;go_wp2;go_ret;exact⟨zab HE.out.symm,HB2.out.1⟩
   ·have e2:¬(j:Int)<f.rg.len:=by omega
    have HE:Hid (F=true):=by show _=_;rw[HA.out,decide_eq_true_eq];intro i hi;exact HL.out i (by omega)
    go_wp2;go_ret;exact⟨zab HE.out.symm,HB.out.1⟩
theorem znv (c:Kl)(f:Cf)(i:Nat)(w:World)(hf:f.At w)(hi:i<f.cd.len):Calls Tryz.prog 119 #[.agg #[.slice c.n.ao c.n.len c.n.cap,.slice c.g.ao c.g.len c.g.cap,.slice c.fs.ao c.fs.len c.fs.cap],.agg f.vs.toArray,.int .i64 i] w fun e w'=>e=.returned (.bool ((f.cd.x i).nhB c.fs.len c.n.len f.sl f.cd.len i))∧Below w.heap.size w w':=by
 have B0:=zac w (.cells #[.slice c.n.ao c.n.len c.n.cap,.slice c.g.ao c.g.len c.g.cap,.slice c.fs.ao c.fs.len c.fs.cap] 28);have b0:=Blk.new w [.slice c.n.ao c.n.len c.n.cap,.slice c.g.ao c.g.len c.g.cap,.slice c.fs.ao c.fs.len c.fs.cap] 28;have hs:(w.alloc (.cells #[.slice c.n.ao c.n.len c.n.cap,.slice c.g.ao c.g.len c.g.cap,.slice c.fs.ao c.fs.len c.fs.cap] 28)).heap.size=w.heap.size+1:=alloc_size _ _;have B1:=zac (w.alloc (.cells #[.slice c.n.ao c.n.len c.n.cap,.slice c.g.ao c.g.len c.g.cap,.slice c.fs.ao c.fs.len c.fs.cap] 28)) (.cells f.vs.toArray 44);have b1:=Blk.new (w.alloc (.cells #[.slice c.n.ao c.n.len c.n.cap,.slice c.g.ao c.g.len c.g.cap,.slice c.fs.ao c.fs.len c.fs.cap] 28)) f.vs 44;have HB:=hyd (Below.next B0 B1);have e0:=(b0.kept B1).cell 0 rfl;have e2:=(b0.kept B1).cell 2 rfl;rw[hs] at b1;have f13:=b1.cell 13 rfl;have f14:=b1.cell 14 rfl;have r0:=zaf (hf.cd.row i hi) (Below.next B0 B1) 0 _ rfl;have r1:=zaf (hf.cd.row i hi) (Below.next B0 B1) 1 _ rfl;simp only[Nat.add_zero] at r0;rw[hf.cd.nil (by omega)] at f14;have hbd:=hf.cd.bound;have hia:=(hf.cd.each i hi).a;have ij:(i:Int)<f.cd.len:=by omega
 have HX:Hid ((f.cd.x i).nhB c.fs.len c.n.len f.sl f.cd.len i=(if (f.cd.x i).op=3∨(f.cd.x i).op=4 then btw (f.cd.x i).a 0 f.sl else if (f.cd.x i).op=17 then btw (f.cd.x i).a 0 c.fs.len else if (f.cd.x i).op=23 then btw (f.cd.x i).a 0 c.n.len else if (f.cd.x i).op=24∨(f.cd.x i).op=25 then btw (f.cd.x i).a ((i:Int)+1) f.cd.len else true)):=rfl;have hw:wrap64 ((i:Int)+1)=(i:Int)+1:=by unfold wrap64;omega
 generalize (f.cd.x i).nhB c.fs.len c.n.len f.sl f.cd.len i=F at *;generalize (f.cd.x i).op=op at *;generalize (f.cd.x i).a=a at *;clear B0 b0 B1 b1 hf hia;generalize hw0:w.alloc (.cells #[.slice c.n.ao c.n.len c.n.cap,.slice c.g.ao c.g.len c.g.cap,.slice c.fs.ao c.fs.len c.fs.cap] 28)=u0 at *;generalize hw1:u0.alloc (.cells f.vs.toArray 44)=u1 at *;have HW:=hyd hw;by_cases o3:op=3
 ·subst o3;have HE:Hid (F=btw a 0 f.sl):=by show _=_;rw[HX.out];rfl
  have hc:=zcl a 0 f.sl u1;generalize btw a 0 f.sl=bb at *;go_enter Tryz.func119,Tryz.ntmps119
  go_wp2_with fail
  refine hc.mono ?_;rintro _ u2 ⟨rfl,hb⟩;have HB2:=hyd (Below.next HB.out hb);clear hc hb e0 e2 f13 f14 r0 r1 hw0 hw1;go_wp2;go_ret;exact⟨zab HE.out.symm,HB2.out⟩
 have n3:(op==3)=false:=by simpa using o3
 by_cases o4:op=4
 ·subst o4;have HE:Hid (F=btw a 0 f.sl):=by show _=_;rw[HX.out];rfl
  have hc:=zcl a 0 f.sl u1;generalize btw a 0 f.sl=bb at *;clear n3;go_enter Tryz.func119,Tryz.ntmps119
  go_wp2_with fail
  refine hc.mono ?_;rintro _ u2 ⟨rfl,hb⟩;have HB2:=hyd (Below.next HB.out hb);clear hc hb e0 e2 f13 f14 r0 r1 hw0 hw1;go_wp2;go_ret;exact⟨zab HE.out.symm,HB2.out⟩
 have n4:(op==4)=false:=by simpa using o4
 by_cases o17:op=17
 ·subst o17;have HE:Hid (F=btw a 0 c.fs.len):=by show _=_;rw[HX.out];rfl
  have hc:=zcl a 0 c.fs.len u1;generalize btw a 0 c.fs.len=bb at *;clear n3 n4;go_enter Tryz.func119,Tryz.ntmps119
  go_wp2_with fail
  refine hc.mono ?_;rintro _ u2 ⟨rfl,hb⟩;have HB2:=hyd (Below.next HB.out hb);clear hc hb e0 e2 f13 f14 r0 r1 hw0 hw1;go_wp2;go_ret;exact⟨zab HE.out.symm,HB2.out⟩
 have n17:(op==17)=false:=by simpa using o17
 by_cases o23:op=23
 ·subst o23;have HE:Hid (F=btw a 0 c.n.len):=by show _=_;rw[HX.out];rfl
  have hc:=zcl a 0 c.n.len u1;generalize btw a 0 c.n.len=bb at *;clear n3 n4 n17;go_enter Tryz.func119,Tryz.ntmps119
  go_wp2_with fail
  refine hc.mono ?_;rintro _ u2 ⟨rfl,hb⟩;have HB2:=hyd (Below.next HB.out hb);clear hc hb e0 e2 f13 f14 r0 r1 hw0 hw1;go_wp2;go_ret;exact⟨zab HE.out.symm,HB2.out⟩
 have n23:(op==23)=false:=by simpa using o23
 by_cases o24:op=24
 ·subst o24;have HE:Hid (F=btw a ((i:Int)+1) f.cd.len):=by show _=_;rw[HX.out];rfl
  have hc:=zcl a ((i:Int)+1) f.cd.len u1;generalize btw a ((i:Int)+1) f.cd.len=bb at *;clear n3 n4 n17 n23;go_enter Tryz.func119,Tryz.ntmps119
  go_wp2_with fail
  refine hc.mono ?_;rintro _ u2 ⟨rfl,hb⟩;have HB2:=hyd (Below.next HB.out hb);clear hc hb e0 e2 f13 f14 r0 r1 hw0 hw1;go_wp2;go_ret;exact⟨zab HE.out.symm,HB2.out⟩
 have n24:(op==24)=false:=by simpa using o24
 by_cases o25:op=25
 ·subst o25;have HE:Hid (F=btw a ((i:Int)+1) f.cd.len):=by show _=_;rw[HX.out];rfl
  have hc:=zcl a ((i:Int)+1) f.cd.len u1;generalize btw a ((i:Int)+1) f.cd.len=bb at *;clear n3 n4 n17 n23 n24;go_enter Tryz.func119,Tryz.ntmps119
  go_wp2_with fail
  refine hc.mono ?_;rintro _ u2 ⟨rfl,hb⟩;have HB2:=hyd (Below.next HB.out hb);clear hc hb e0 e2 f13 f14 r0 r1 hw0 hw1;go_wp2;go_ret;exact⟨zab HE.out.symm,HB2.out⟩
 have n25:(op==25)=false:=by simpa using o25
 have HE:Hid (F=true):=by show _=_;rw[HX.out,if_neg (by omega),if_neg (by omega),if_neg (by omega),if_neg (by omega)]
 clear o3 o4 o17 o23 o24 o25;go_enter Tryz.func119,Tryz.ntmps119
 go_wp2;go_ret;exact⟨zab HE.out.symm,HB.out⟩
end
end Go.Proofs.YtfobijdkoeifjaaGreatDoor
