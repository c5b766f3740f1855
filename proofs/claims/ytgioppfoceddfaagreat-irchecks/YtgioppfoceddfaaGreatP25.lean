import Derived.Test.YtgioppfoceddfaaGreatP23
import Derived.Test.YtgioppfoceddfaaGreatP3
set_option maxRecDepth 100000
set_option maxHeartbeats 32000000
namespace Go.Proofs.YtgioppfoceddfaaGreat
section
open Go Go.RowKit
def Nd.szd:Nd→Prop
 | .dm=>True
 | .mk _ _ _ _ bl _ bp _ _ _ el _ ep=>(bl≤200∧∀i,i<bl→Nd.szd (bp i))∧(el≤200∧∀i,i<el→Nd.szd (ep i))
def Ns.szd (b:Ns):Prop:=b.len≤200∧∀i,i<b.len→(b.ps i).szd
theorem Nd.szd_of:∀{n:Nd},n.bd.szd→n.el.szd→n.szd
 | .dm,_,_=>trivial
 | .mk _ _ _ _ _ _ _ _ _ _ _ _ _,h1,h2=>⟨h1,h2⟩
theorem Nd.szd_bd:∀{n:Nd},n.szd→n.bd.szd
 | .dm,_=>⟨Nat.zero_le _,fun _ h=>absurd h (Nat.not_lt_zero _)⟩
 | .mk _ _ _ _ _ _ _ _ _ _ _ _ _,h=>h.1
theorem Nd.szd_el:∀{n:Nd},n.szd→n.el.szd
 | .dm,_=>⟨Nat.zero_le _,fun _ h=>absurd h (Nat.not_lt_zero _)⟩
 | .mk _ _ _ _ _ _ _ _ _ _ _ _ _,h=>h.2
def SizB (b:Ns)(w:World)(e:Ending)(w':World):Prop:=∃r:Bool,e=.returned (.bool r)∧(r=true→b.szd)∧Below w.heap.size w w'
def zed (b:Ns):Prop:=∀(deep:Int) (w:World),b.At w→Calls Tryz.prog 14 #[.slice b.ao b.len b.cap,.int .i64 deep] w (SizB b w)
theorem zgw (b:Ns)(ih:∀i,i<b.len→zed (b.ps i).bd∧zed (b.ps i).el):zed b:=by
 intro deep w hb;have HH:=hid (show (∀i,i<b.len→zed (b.ps i).bd∧zed (b.ps i).el)∧b.At w from ⟨ih,hb⟩);have hnil:0<b.len→b.ao=some ⟨b.b,b.o,none⟩:=hb.nil;have hbd:b.len≤9223372036854775807:=hb.bound;have HI:=hid (Below.refl w.heap.size w);clear ih hb;generalize hlen:b.len=len at *;have HL:Hid (b.len=len):=hlen;clear hlen;generalize b.ao=ao at *;generalize b.cap=cap at *;go_enter Tryz.func14,Tryz.ntmps14
 go_upto_region 1 with fail
 go_cut [17] (fun c wx=>∃r:Bool,c=.bool r∧Hid (r=false→len≤200)∧Hid (Below w.heap.size w wx))
 case first =>
  by_cases h2:200<len
  ·have d1:decide ((200:Int)<len)=true:=by simp;omega
   clear h2;go_wp2;go_meet
   case rel=>exact⟨_,rfl,(fun h=>by cases h),HI.out⟩
  ·have H200:Hid (len≤200):=by show _≤_;omega
   have d1:decide ((200:Int)<len)=false:=by simp;omega
   cases d2:(deep==0)
   ·go_wp2;go_meet
    case rel=>exact⟨_,rfl,(fun _=>H200.out),HI.out⟩
   ·go_wp2;go_meet
    case rel=>exact⟨_,rfl,(fun _=>H200.out),HI.out⟩
 case rest =>
  obtain⟨r,rfl,h200,hI⟩:=hcut;clear HI;have HI:=hid hI.out;clear hI;cases r
  ·have H200:=hid (h200.out rfl);clear h200;go_wp2;go_loopw [5] (fun i wr=>∃(k:Nat),k≤len∧i=.int .i64 k∧(∀i,i<k→(b.ps i).szd)∧Below w.heap.size w wr) (fun i _=>len - (intOf i).toNat)
   case atStart=>exact⟨0,Nat.zero_le _,rfl,(fun i hi=>absurd hi (Nat.not_lt_zero _)),HI.out⟩
   case round =>
    clear HI;obtain⟨k,hk,rfl,hall,hB⟩:=hrel;have HA:=hid hall;have HI:=hid hB;clear hB hall;by_cases hlt:k<len
    ·have ij:(k:Int)<len:=by omega
     have a0:=hnil (by omega);subst a0;have hlt':k<b.len:=by rw[HL.out];exact hlt
     have HN:=hid (show (b.ps k).At wr∧wr.rangeAt b.b (b.o+k*14) (b.ps k).vs∧zed (b.ps k).bd∧zed (b.ps k).el from ⟨(HH.out.2.kept HI.out).part k hlt',(HH.out.2.kept HI.out).cells k hlt',HH.out.1 k hlt⟩);have HA1:Hid ((b.ps k).szd→∀i,i<k+1→(b.ps i).szd):=by
      intro h i hi;rcases Nat.lt_or_ge i k with h2 | h2
      ·exact HA.out i h2
      ·have:i=k:=by omega
       subst this;exact h
     clear hlt';generalize b.ps k=nd at *;have rT:wr.rangeAt b.b (b.o+k*14+6) nd.h.t.vs:=fun i v hv=>by
      have:=HN.out.2.1 (6+i) v (by
       match i,hv with
       | 0,hv=>exact hv
       | 1,hv=>exact hv
       | 2,hv=>exact hv
       | 3,hv=>exact hv
       | 4,hv=>exact hv
       | _+5,hv=>simp[Ty.vs] at hv)
      rw[←Nat.add_assoc] at this;exact this
     go_upto_region 6 with fail
     go_cut [61] (fun c wx=>∃r:Bool,c=.bool r∧Hid (r=false→nd.szd)∧Hid (Below w.heap.size w wx))
     case first =>
      have hS:Calls Tryz.prog 13 #[.agg nd.h.t.vs.toArray] wr (fun e w'=>e=.returned (.bool (decide (nd.h.t.nodes≤40)))∧Below wr.heap.size wr w'):=zje nd.h.t wr HN.out.1.t;go_wp2_with (refine wpList_load_mid rfl 38 (.tmp 27) rfl b.b (b.o+k*14+6) (by kernel_rfl) nd.h.t.vs _ rT Tryz.underlying38 rfl (by kernel_rfl) ?_)
      refine Calls.mono hS ?_;rintro _ w1 ⟨rfl,hb1⟩;have HN1:=hid (show nd.At w1∧w1.rangeAt b.b (b.o+k*14) nd.vs∧Below w.heap.size w w1 from ⟨HN.out.1.kept hb1,zbx HN.out.2.1 hb1,Below.next HI.out hb1⟩);clear hS hb1 rT;generalize decide (nd.h.t.nodes≤40)=r1 at *;cases r1
      ·go_wp2;go_meet
       case rel=>exact⟨_,rfl,(fun h=>by cases h),HN1.out.2.2⟩
      have c11:w1.cell? ⟨b.b,b.o+k*14+11,none⟩=some (.slice nd.h.ar.ao nd.h.ar.len nd.h.ar.cap):=HN1.out.2.1 11 _ rfl;have c12:w1.cell? ⟨b.b,b.o+k*14+12,none⟩=some (.slice nd.bd.ao nd.bd.len nd.bd.cap):=HN1.out.2.1 12 _ rfl;cases d3:decide ((100:Int)<nd.h.ar.len)
      ·go_wp2_with fail
       refine Calls.mono (HN.out.2.2.1 _ w1 HN1.out.1.bd) ?_;rintro _ w2 ⟨r2,rfl,hz2,hb2⟩;have HZ2:=hid hz2;clear hz2;have HN2:=hid (show nd.At w2∧w2.rangeAt b.b (b.o+k*14) nd.vs∧Below w.heap.size w w2 from ⟨HN1.out.1.kept hb2,zbx HN1.out.2.1 hb2,Below.next HN1.out.2.2 hb2⟩);clear hb2 c11 c12 d3 HN1;cases r2
       ·go_wp2;go_meet
        case rel=>exact⟨_,rfl,(fun h=>by cases h),HN2.out.2.2⟩
       have c13:w2.cell? ⟨b.b,b.o+k*14+13,none⟩=some (.slice nd.el.ao nd.el.len nd.el.cap):=HN2.out.2.1 13 _ rfl;go_wp2_with fail
       refine Calls.mono (HN.out.2.2.2 _ w2 HN2.out.1.el) ?_;rintro _ w3 ⟨r3,rfl,hz3,hb3⟩;have HZ3:=hid hz3;clear hz3;have HB3:=hid (Below.next HN2.out.2.2 hb3);clear hb3 c13 HN2;cases r3
       ·go_wp2;go_meet
        case rel=>exact⟨_,rfl,(fun h=>by cases h),HB3.out⟩
       ·go_wp2;go_meet
        case rel=>exact⟨_,rfl,(fun _=>Nd.szd_of (HZ2.out (by simp)) (HZ3.out (by simp))),HB3.out⟩
      ·go_wp2;go_meet
       case rel=>exact⟨_,rfl,(fun h=>by cases h),HN1.out.2.2⟩
     case rest =>
      obtain⟨r,rfl,hz,hI⟩:=hcut;clear HI;have HI:=hid hI.out;clear hI;cases r
      ·have HA2:=hid (HA1.out (hz.out rfl));clear hz HA1;go_wp2;go_roundw
       case rel=>exact⟨k+1,by omega,by go_num,HA2.out,HI.out⟩
       case measure=>simp[intOf];omega
      ·clear hz;go_wp2;go_ret;exact⟨_,rfl,(fun h=>by cases h),HI.out⟩
    ·have e2:k=len:=by omega
     subst e2;have d:¬(k:Int)<k:=by omega
     go_wp2;go_ret;exact⟨_,rfl,(fun _=>⟨by rw[HL.out];exact H200.out,fun i hi=>HA.out i (by rw[HL.out] at hi;exact hi)⟩),HI.out⟩
  ·clear h200;go_wp2;go_ret;exact⟨_,rfl,(fun h=>by cases h),HI.out⟩
theorem zte:∀n:Nd,zed n.bd∧zed n.el:=by
 intro n
 induction n using Nd.ind with
 | h n ih1 ih2=>exact⟨zgw _ ih1,zgw _ ih2⟩
theorem zp9 (b:Ns):zed b:=zgw b fun i _=>zte (b.ps i)
def SomeBS (w:World)(e:Ending)(w':World):Prop:=∃r:Bool,e=.returned (.bool r)∧Below w.heap.size w w'
theorem zfj (t:Ty)(w:World)(h:t.At w):Calls Tryz.prog 13 #[.agg t.vs.toArray] w (SomeBS w):=Calls.mono (zje t w h) fun _ _ h=>⟨_,h.1,h.2⟩
def FewS (l:Fl)(w:World)(e:Ending)(w':World):Prop:=∃r:Bool,e=.returned (.bool r)∧(r=true→l.len≤70∧∀i,i<l.len→(l.ps i).caps.len≤30∧(l.ps i).body.szd)∧Below w.heap.size w w'
structure FwS (w:World)(f:Fc)(B:Nat)(u:World):Prop where
 bl:Below w.heap.size w u
 F:Blk u B f.vs 41
theorem FwS.kept {w:World}{f:Fc}{B:Nat}{u u':World}(h:FwS w f B u)(hb:Below u.heap.size u u'):FwS w f B u':=⟨Below.next h.bl hb,h.F.kept hb⟩
theorem zvd (n:Strs)(g:Grid)(l:Fl)(w:World)(hn:n.At w)(hg:g.At w)(hl:l.At w):Calls Tryz.prog 5 #[.agg #[.slice n.ao n.len n.cap,.slice g.ao g.len g.cap],.slice l.ao l.len l.cap] w (FewS l w):=by
 have B0:=zac w (.cells #[.slice n.ao n.len n.cap,.slice g.ao g.len g.cap] 25);have HI:=hid (show Below w.heap.size w (w.alloc (.cells #[.slice n.ao n.len n.cap,.slice g.ao g.len g.cap] 25))∧Blk (w.alloc (.cells #[.slice n.ao n.len n.cap,.slice g.ao g.len g.cap] 25)) w.heap.size [.slice n.ao n.len n.cap,.slice g.ao g.len g.cap] 25 from ⟨B0,Blk.new w _ _⟩);have HH:=hid (show n.At w∧g.At w∧l.At w from ⟨hn,hg,hl⟩);have hnil:0<l.len→l.ao=some ⟨l.b,l.o,none⟩:=hl.nil;have hbd:l.len≤9223372036854775807:=hl.bound;clear hn hg hl B0;generalize hlen:l.len=len at *;have HL:Hid (l.len=len):=hlen;clear hlen;generalize l.ao=ao at *;generalize l.cap=cap at *;go_enter Tryz.func5,Tryz.ntmps5
 go_upto_region 1 with fail
 generalize (w.alloc (.cells #[.slice n.ao n.len n.cap,.slice g.ao g.len g.cap] 25))=w1 at *;go_cut [16] (fun c wx=>∃r:Bool,c=.bool r∧(r=false→len≤70)∧Hid (Below w.heap.size w wx))
 case first =>
  have e0:=HI.out.2.cell 0 rfl;have e1:=HI.out.2.cell 1 rfl;have hS:=zr0 n g w1 (HH.out.1.kept HI.out.1) (HH.out.2.1.kept HI.out.1);go_wp2_with fail
  refine Calls.mono hS ?_;rintro _ w2 ⟨rfl,hb2⟩;have HB:=hid (Below.next HI.out.1 hb2);clear hS e0 e1 hb2;generalize zeb n g=r1 at *;cases r1
  ·go_wp2;go_meet
   case rel=>exact⟨_,rfl,(fun h=>by cases h),HB.out⟩
  ·by_cases h70:70<len
   ·have d1:decide ((70:Int)<len)=true:=by simp;omega
    go_wp2;go_meet
    case rel=>exact⟨_,rfl,(fun h=>by cases h),HB.out⟩
   ·have d1:decide ((70:Int)<len)=false:=by simp;omega
    have HLe:=hid h70;clear h70;go_wp2;go_meet
    case rel=>exact⟨_,rfl,(fun _=>by have:=HLe.out;omega),HB.out⟩
 case rest =>
  obtain⟨r,rfl,h70,hI⟩:=hcut;clear HI;have HI:=hid hI.out;clear hI;cases r
  ·have HLe:=hid (h70 rfl);clear h70;go_wp2;go_loopw [5] (fun i wr=>∃(k:Nat),k≤len∧i=.int .i64 k∧(∀i,i<k→(l.ps i).caps.len≤30∧(l.ps i).body.szd)∧Below w.heap.size w wr) (fun i _=>len - (intOf i).toNat)
   case atStart=>exact⟨0,Nat.zero_le _,rfl,fun i hi=>absurd hi (Nat.not_lt_zero _),HI.out⟩
   case round =>
    clear HI;obtain⟨k,hk,rfl,hall,hB⟩:=hrel;have HA:=hid hall;have HI:=hid hB;clear hall hB;by_cases hlt:k<len
    ·have ij:(k:Int)<len:=by omega
     have a0:=hnil (by omega);subst a0;have hlt':k<l.len:=by rw[HL.out];exact hlt
     have rN:wr.rangeAt l.b (l.o+k*16) (l.ps k).vs:=(HH.out.2.2.kept HI.out).cells k hlt';have HF:=hid (HH.out.2.2.part k hlt');have HA1:Hid ((l.ps k).caps.len≤30∧(l.ps k).body.szd→∀i,i<k+1→(l.ps i).caps.len≤30∧(l.ps i).body.szd):=by
      intro h i hi;rcases Nat.lt_or_ge i k with h2 | h2
      ·exact HA.out i h2
      ·have:i=k:=by omega
       subst this;exact h
     clear hlt';generalize l.ps k=f at *;have hN:=zac wr (.cells f.vs.toArray 41);have HB:=hid (show FwS w f wr.heap.size (wr.alloc (.cells f.vs.toArray 41)) from ⟨Below.next HI.out hN,Blk.new wr _ _⟩);clear hN HI HA;go_upto_region 7 with (first | (refine wpList_load_mid rfl 41 (.tmp 25) rfl l.b (l.o+k*16) (by kernel_rfl) f.vs _ rN Tryz.underlying41 rfl (by kernel_rfl) ?_) | (refine zao rfl rfl 41 rfl (.tmp 6) (.tmp 26) rfl zFv (zf5 _) rfl f.vs.toArray (by kernel_rfl) (by kernel_rfl) rfl (by kernel_rfl) (by simpa using f.va_one) ?_))
     clear rN;generalize (wr.alloc (.cells f.vs.toArray 41))=w2 at *;generalize wr.heap.size=BF at *;simp only[Act.put,zA,zB,zC];go_cut [54] (fun c wx=>∃r:Bool,c=.bool r∧Hid (r=false→f.caps.len≤30∧f.body.szd)∧Hid (FwS w f BF wx))
     case first =>
      have s13:=HB.out.F.cell 13 (v:=.slice f.slots.ao f.slots.len f.slots.cap) rfl;have s10:=HB.out.F.cell 10 (v:=.slice f.caps.ao f.caps.len f.caps.cap) rfl;cases d1:decide ((300:Int)<f.slots.len)
      ·by_cases h30:30<f.caps.len
       ·have d2:decide ((30:Int)<f.caps.len)=true:=by simp;omega
        clear h30;go_wp2;go_meet
        case rel=>exact⟨_,rfl,(fun h=>by cases h),HB.out⟩
       ·have d2:decide ((30:Int)<f.caps.len)=false:=by simp;omega
        have H30:Hid (f.caps.len≤30):=by show _≤_;omega
        clear h30;have r0:w2.rangeAt BF 0 f.param.vs:=zbm HB.out.F 0 rfl rfl rfl rfl rfl;go_wp2_with (refine za0 (by kernel_rfl) 38 (.tmp 38) rfl BF 0 (by kernel_rfl) f.param.vs _ r0 Tryz.underlying38 rfl (by kernel_rfl) ?_)
        refine Calls.mono (zfj f.param w2 (HF.out.param.kept HB.out.bl)) ?_;rintro _ w3 ⟨r1,rfl,hb3⟩;have HB3:=hid (HB.out.kept hb3);clear s13 s10 d1 d2 r0 hb3 HB;cases r1
        ·go_wp2;go_meet
         case rel=>exact⟨_,rfl,(fun h=>by cases h),HB3.out⟩
        have r5:w3.rangeAt BF 5 f.result.vs:=zbm HB3.out.F 5 rfl rfl rfl rfl rfl;go_wp2_with (refine za0 (by kernel_rfl) 38 (.tmp 44) rfl BF 5 (by kernel_rfl) f.result.vs _ r5 Tryz.underlying38 rfl (by kernel_rfl) ?_)
        refine Calls.mono (zfj f.result w3 (HF.out.result.kept HB3.out.bl)) ?_;rintro _ w4 ⟨r2,rfl,hb4⟩;have HB4:=hid (HB3.out.kept hb4);clear r5 hb4 HB3;cases r2
        ·go_wp2;go_meet
         case rel=>exact⟨_,rfl,(fun h=>by cases h),HB4.out⟩
        have s14:=HB4.out.F.cell 14 (v:=.slice f.body.ao f.body.len f.body.cap) rfl;go_wp2_with fail
        refine Calls.mono (zp9 f.body _ w4 (HF.out.body.kept HB4.out.bl)) ?_;rintro _ w5 ⟨r3,rfl,hz5,hb5⟩;have HZ5:=hid hz5;clear hz5;have HB5:=hid (HB4.out.kept hb5);clear s14 hb5 HB4;cases r3
        ·go_wp2;go_meet
         case rel=>exact⟨_,rfl,(fun h=>by cases h),HB5.out⟩
        ·go_wp2;go_meet
         case rel=>exact⟨_,rfl,(fun _=>⟨H30.out,HZ5.out (by simp)⟩),HB5.out⟩
      ·go_wp2;go_meet
       case rel=>exact⟨_,rfl,(fun h=>by cases h),HB.out⟩
     case rest =>
      obtain⟨r,rfl,h30,hI⟩:=hcut;clear HB;have HB:=hid hI.out;clear hI;cases r
      ·have HA2:=hid (HA1.out (h30.out rfl));clear HA1 h30;have hsn:0<f.slots.len→f.slots.ao=some ⟨f.slots.b,f.slots.o,none⟩:=HF.out.slots.nil;have hsb:f.slots.len≤9223372036854775807:=HF.out.slots.bound;have hcn:0<f.caps.len→f.caps.ao=some ⟨f.caps.b,f.caps.o,none⟩:=HF.out.caps.nil;have hcb:f.caps.len≤9223372036854775807:=HF.out.caps.bound;go_wp2;go_loopw [7] (fun i wr=>∃(m:Nat),m≤f.slots.len∧i=.int .i64 m∧FwS w f BF wr) (fun i _=>f.slots.len - (intOf i).toNat)
       case atStart=>exact⟨0,Nat.zero_le _,rfl,HB.out⟩
       case round =>
        clear HB;obtain⟨m,hm,rfl,hB⟩:=hrel;have HB:=hid hB;clear hB;have s13:=HB.out.F.cell 13 (v:=.slice f.slots.ao f.slots.len f.slots.cap) rfl;by_cases hml:m<f.slots.len
        ·have ij2:(m:Int)<f.slots.len:=by omega
         rw[hsn (by omega)] at s13;have rS:=C5.row ((HF.out.slots.kept HB.out.bl).cells hml);have HT:=hid ((HF.out.slots.kept HB.out.bl).part hml);go_wp2_with (refine wpList_load_mid rfl 38 (.tmp 65) rfl f.slots.b (f.slots.o+m*5) (by kernel_rfl) (f.slots.ps m).vs _ rS Tryz.underlying38 rfl (by kernel_rfl) ?_)
         refine Calls.mono (zfj (f.slots.ps m) _ HT.out) ?_;rintro _ w3 ⟨r1,rfl,hb3⟩;have HB3:=hid (HB.out.kept hb3);clear s13 rS HT hb3 HB;cases r1
         ·go_wp2;go_ret;exact⟨_,rfl,(fun h=>by cases h),HB3.out.bl⟩
         ·go_wp2;go_roundw
          case rel=>exact⟨m+1,by omega,by go_num,HB3.out⟩
          case measure=>simp[intOf];omega
        ·have e2:m=f.slots.len:=by omega
         subst e2;have d:¬(f.slots.len:Int)<f.slots.len:=by omega
         go_wp2;clear s13;go_loopw [8] (fun i wr=>∃(m:Nat),m≤f.caps.len∧i=.int .i64 m∧FwS w f BF wr) (fun i _=>f.caps.len - (intOf i).toNat)
         case atStart=>exact⟨0,Nat.zero_le _,rfl,HB.out⟩
         case round =>
          clear HB;obtain⟨m,hm,rfl,hB⟩:=hrel;have HB:=hid hB;clear hB;have s10:=HB.out.F.cell 10 (v:=.slice f.caps.ao f.caps.len f.caps.cap) rfl;by_cases hml:m<f.caps.len
          ·have ij2:(m:Int)<f.caps.len:=by omega
           rw[hcn (by omega)] at s10;have rS:=C5.row ((HF.out.caps.kept HB.out.bl).cells hml);have HT:=hid ((HF.out.caps.kept HB.out.bl).part hml);go_wp2_with (refine wpList_load_mid rfl 38 (.tmp 79) rfl f.caps.b (f.caps.o+m*5) (by kernel_rfl) (f.caps.ps m).vs _ rS Tryz.underlying38 rfl (by kernel_rfl) ?_)
           refine Calls.mono (zfj (f.caps.ps m) _ HT.out) ?_;rintro _ w3 ⟨r1,rfl,hb3⟩;have HB3:=hid (HB.out.kept hb3);clear s10 rS HT hb3 HB;cases r1
           ·go_wp2;go_ret;exact⟨_,rfl,(fun h=>by cases h),HB3.out.bl⟩
           ·go_wp2;go_roundw
            case rel=>exact⟨m+1,by omega,by go_num,HB3.out⟩
            case measure=>simp[intOf];omega
          ·have e2:m=f.caps.len:=by omega
           subst e2;have d:¬(f.caps.len:Int)<f.caps.len:=by omega
           go_wp2;go_roundw
           case rel=>exact⟨k+1,by omega,by go_num,HA2.out,HB.out.bl⟩
           case measure=>simp[intOf];omega
      ·go_wp2;go_ret;exact⟨_,rfl,(fun h=>by cases h),HB.out.bl⟩
    ·have e2:k=len:=by omega
     subst e2;have d:¬(k:Int)<k:=by omega
     go_wp2;go_ret;exact⟨_,rfl,(fun _=>⟨by rw[HL.out];exact HLe.out,fun i hi=>HA.out i (by rw[HL.out] at hi;exact hi)⟩),HI.out⟩
  ·clear h70;go_wp2;go_ret;exact⟨_,rfl,(fun h=>by cases h),HI.out⟩
def rcL (f h:Nat→Nat):Nat→Nat
 | 0=>0
 | k+1=>if 4096<rcL f h k then rcL f h k else if rcL f h k+(1+f k)≤4096 then rcL f h k+(1+f k)+h k else rcL f h k+(1+f k)
def rcS (len d:Nat)(f h:Nat→Nat):Nat:=if 0<len∧d=0 then 4097 else min (rcL f h len) 4097
def Nd.rc:Nd→Nat→Nat × Nat
 | .dm=>fun _=>(0,0)
 | .mk _ _ _ _ bl _ bp _ _ _ el _ ep=>fun d=>(rcS bl d (fun i=>(Nd.rc (bp i) (d - 1)).1) (fun i=>(Nd.rc (bp i) (d - 1)).2),rcS el d (fun i=>(Nd.rc (ep i) (d - 1)).1) (fun i=>(Nd.rc (ep i) (d - 1)).2))
def Ns.rc (b:Ns)(d:Nat):Nat:=rcS b.len d (fun i=>((b.ps i).rc (d - 1)).1) (fun i=>((b.ps i).rc (d - 1)).2)
theorem Nd.rc_eq:∀(n:Nd) (d:Nat),n.rc d=(n.bd.rc d,n.el.rc d)
 | .dm,d=>by
  show (0,0)=_
  unfold Ns.rc rcS;simp[Nd.bd,Nd.el,Ns.nl,rcL]
 | .mk _ _ _ _ _ _ _ _ _ _ _ _ _,_=>rfl
theorem zh1 (len d:Nat)(f h:Nat→Nat):rcS len d f h≤4097:=by
 unfold rcS;split
 ·omega
 ·exact Nat.min_le_right _ _
theorem znt {F:Nat→Nat→Nat}{f h:Nat→Nat}{deep c:Nat}(hd:deep≤64)(hc:c≤4097):∀(k:Nat),(∀i,i<k→∀m,m≤4095→F i m=min (min (m+1+f i) 4097+h i) 4097)→cntL F deep k c=min (c+rcL f h k) 4097
 | 0,_=>by
  show c=min (c+0) 4097
  omega
 | k+1,hF=>by
  have ih:=znt hd hc k (fun i hi=>hF i (by omega));show (if 64<deep∨4096≤cntL F deep k c then 4097 else F k (cntL F deep k c))=min (c+(if 4096<rcL f h k then rcL f h k else if rcL f h k+(1+f k)≤4096 then rcL f h k+(1+f k)+h k else rcL f h k+(1+f k))) 4097
  rw[ih];generalize rcL f h k=n;by_cases h1:4096≤min (c+n) 4097
  ·rw[if_pos (Or.inr h1)];by_cases h2:4096<n
   ·rw[if_pos h2];omega
   ·rw[if_neg h2];by_cases h3:n+(1+f k)≤4096
    ·rw[if_pos h3];omega
    ·rw[if_neg h3];omega
  ·rw[if_neg (by omega),hF k (by omega) _ (by omega)];have h2:¬4096<n:=by omega
   rw[if_neg h2];by_cases h3:n+(1+f k)≤4096
   ·rw[if_pos h3];omega
   ·rw[if_neg h3];omega
theorem zgv {w:World}{b:Ns}(hb:b.At w)(ih:∀i,i<b.len→(∀deep c,deep≤65→c≤4097→(b.ps i).bd.cnt deep c=min (c+(b.ps i).bd.rc (65 - deep)) 4097)∧(∀deep c,deep≤65→c≤4097→(b.ps i).el.cnt deep c=min (c+(b.ps i).el.rc (65 - deep)) 4097))(deep c:Nat)(hd:deep≤65)(hc:c≤4097):b.cnt deep c=min (c+b.rc (65 - deep)) 4097:=by
 unfold Ns.cnt Ns.rc rcS;by_cases h0:b.len=0
 ·rw[h0];show c=min (c+(if _ then _ else min 0 4097)) 4097
  rw[if_neg (by omega)];omega
 by_cases h65:deep=65
 ·subst h65;rw[if_pos (by omega),zjx (k:=0) (Or.inl (by omega)) (by omega)];omega
 ·rw[if_neg (by omega),znt (f:=fun i=>((b.ps i).rc (65 - deep - 1)).1) (h:=fun i=>((b.ps i).rc (65 - deep - 1)).2) (by omega) hc b.len ?_]
  ·generalize rcL _ _ _=n;omega
  ·intro i hi m hm;rw[Nd.cnt_eq (hb.part i hi),(ih i hi).1 (deep+1) (m+1) (by omega) (by omega),(ih i hi).2 (deep+1) _ (by omega) (Nat.min_le_right _ _),Nd.rc_eq];have e:65 - (deep+1)=65 - deep - 1:=by omega
   rw[e]
theorem zso {w:World}:∀n:Nd,n.At w→(∀deep c,deep≤65→c≤4097→n.bd.cnt deep c=min (c+n.bd.rc (65 - deep)) 4097)∧(∀deep c,deep≤65→c≤4097→n.el.cnt deep c=min (c+n.el.rc (65 - deep)) 4097):=by
 intro n
 induction n using Nd.ind with
 | h n ih1 ih2=>intro hn;exact⟨fun deep c hd hc=>zgv hn.bd (fun i hi=>ih1 i hi (hn.bd.part i hi)) deep c hd hc,fun deep c hd hc=>zgv hn.el (fun i hi=>ih2 i hi (hn.el.part i hi)) deep c hd hc⟩
theorem znj {w:World}{b:Ns}(hb:b.At w):b.cnt 1 0=b.rc 64:=by
 rw[zgv hb (fun i hi=>zso _ (hb.part i hi)) 1 0 (by omega) (by omega)];have:=zh1 b.len (65 - 1) (fun i=>((b.ps i).rc (65 - 1 - 1)).1) (fun i=>((b.ps i).rc (65 - 1 - 1)).2);show min (0+b.rc 64) 4097=b.rc 64
 have h2:b.rc 64≤4097:=this;omega
def Nd.eqv:Nd→Nd→Prop
 | .dm,_=>False
 | .mk h _ _ _ bl _ bp _ _ _ el _ ep,n=>n.h=h∧n.bd.len=bl∧n.el.len=el∧(∀i,i<bl→Nd.eqv (bp i) (n.bd.ps i))∧∀i,i<el→Nd.eqv (ep i) (n.el.ps i)
def Ns.eqv (b s:Ns):Prop:=s.len=b.len∧∀i,i<b.len→(b.ps i).eqv (s.ps i)
theorem Nd.eqv.eqv_bd:∀{m n:Nd},m.eqv n→m.bd.eqv n.bd
 | .dm,_,h=>h.elim
 | .mk _ _ _ _ _ _ _ _ _ _ _ _ _,_,h=>⟨h.2.1,h.2.2.2.1⟩
theorem Nd.eqv.eqv_el:∀{m n:Nd},m.eqv n→m.el.eqv n.el
 | .dm,_,h=>h.elim
 | .mk _ _ _ _ _ _ _ _ _ _ _ _ _,_,h=>⟨h.2.2.1,h.2.2.2.2⟩
theorem Nd.eqv.eqv_h:∀{m n:Nd},m.eqv n→n.h=m.h
 | .dm,_,h=>h.elim
 | .mk _ _ _ _ _ _ _ _ _ _ _ _ _,_,h=>h.1
theorem zl8 {f h f' h':Nat→Nat}:∀(k:Nat),(∀i,i<k→f i=f' i∧h i=h' i)→rcL f h k=rcL f' h' k
 | 0,_=>rfl
 | k+1,hh=>by
  have:=hh k (by omega);unfold rcL;rw[zl8 k (fun i hi=>hh i (by omega)),this.1,this.2]
theorem zgo {b s:Ns}(h:b.eqv s)(ih:∀i,i<b.len→∀d,(s.ps i).rc d=(b.ps i).rc d)(d:Nat):s.rc d=b.rc d:=by
 unfold Ns.rc rcS;rw[h.1,zl8 b.len (fun i hi=>by rw[ih i hi];exact⟨rfl,rfl⟩)]
theorem zsz:∀(m n:Nd),m.eqv n→∀d,n.rc d=m.rc d:=by
 intro m
 induction m using Nd.ind with
 | h m ih1 ih2 =>
  intro n h d;rw[Nd.rc_eq,Nd.rc_eq,zgo h.eqv_bd (fun i hi d=>ih1 i hi _ (h.eqv_bd.2 i hi) d) d,zgo h.eqv_el (fun i hi d=>ih2 i hi _ (h.eqv_el.2 i hi) d) d]
theorem rc_eqv {b s:Ns}(h:b.eqv s)(d:Nat):s.rc d=b.rc d:=zgo h (fun i hi d=>zsz _ _ (h.2 i hi) d) d
def Nd.Rw (u:World)(Q:Nat→Prop):Nd→Prop
 | .dm=>False
 | .mk _ bao bb bo bl _ bp eao eb eo el _ ep=>((0<bl→bao=some ⟨bb,bo,none⟩∧Q bb)∧bl≤9223372036854775807∧∀i,i<bl→u.rangeAt bb (bo+i*14) (bp i).vs∧Nd.Rw u Q (bp i))∧((0<el→eao=some ⟨eb,eo,none⟩∧Q eb)∧el≤9223372036854775807∧∀i,i<el→u.rangeAt eb (eo+i*14) (ep i).vs∧Nd.Rw u Q (ep i))
structure Ns.Rw (s:Ns)(u:World)(Q:Nat→Prop):Prop where
 nil:0<s.len→s.ao=some ⟨s.b,s.o,none⟩∧Q s.b
 bound:s.len≤9223372036854775807
 part:∀i,i<s.len→u.rangeAt s.b (s.o+i*14) (s.ps i).vs∧(s.ps i).Rw u Q
theorem zft {u u':World}{b o:Nat}{vs:List Value}(h:u.rangeAt b o vs)(e:u'.heap[b]?=u.heap[b]?):u'.rangeAt b o vs:=fun j v hv=>by
 rw[World.cell?_of_block (a:=⟨b,o+j,none⟩) e];exact h j v hv
theorem Nd.Rw.agree {u u':World}{Q Q':Nat→Prop}(ag:∀b,Q b→u'.heap[b]?=u.heap[b]?)(qq:∀b,Q b→Q' b):∀{n:Nd},n.Rw u Q→n.Rw u' Q'
 | .dm,h=>h.elim
 | .mk _ _ _ _ _ _ _ _ _ _ _ _ _,h=>⟨⟨fun hp=>⟨(h.1.1 hp).1,qq _ (h.1.1 hp).2⟩,h.1.2.1,fun i hi=>⟨zft (h.1.2.2 i hi).1 (ag _ (h.1.1 (by omega)).2),Nd.Rw.agree ag qq (h.1.2.2 i hi).2⟩⟩,⟨fun hp=>⟨(h.2.1 hp).1,qq _ (h.2.1 hp).2⟩,h.2.2.1,fun i hi=>⟨zft (h.2.2.2 i hi).1 (ag _ (h.2.1 (by omega)).2),Nd.Rw.agree ag qq (h.2.2.2 i hi).2⟩⟩⟩
theorem Ns.Rw.agree {u u':World}{Q Q':Nat→Prop}{s:Ns}(ag:∀b,Q b→u'.heap[b]?=u.heap[b]?)(qq:∀b,Q b→Q' b)(h:s.Rw u Q):s.Rw u' Q':=⟨fun hp=>⟨(h.nil hp).1,qq _ (h.nil hp).2⟩,h.bound,fun i hi=>⟨zft (h.part i hi).1 (ag _ (h.nil (by omega)).2),(h.part i hi).2.agree ag qq⟩⟩
theorem at_eqv {w0 u:World}{Q:Nat→Prop}(hb:Below w0.heap.size w0 u):∀(m n:Nd),m.At w0→m.eqv n→n.Rw u Q→n.At u:=by
 intro m
 induction m using Nd.ind with
 | h m ih1 ih2 =>
  intro n hm he hr;cases n with
  | dm=>exact hr.elim
  | mk h bao bb bo bl bc bp eao eb eo el ec ep =>
   have e:=he.eqv_h;have e1:=he.eqv_bd;have e2:=he.eqv_el;have eh:h=m.h:=e;refine⟨⟨by rw[eh];exact hm.t.kept hb,by rw[eh];exact hm.ar.kept hb⟩,⟨fun hp=>(hr.1.1 hp).1,hr.1.2.1,fun i hi=>⟨(hr.1.2.2 i hi).1,?_⟩⟩,⟨fun hp=>(hr.2.1 hp).1,hr.2.2.1,fun i hi=>⟨(hr.2.2.2 i hi).1,?_⟩⟩⟩
   ·have hl:bl=m.bd.len:=e1.1;exact ih1 i (by omega) _ (hm.bd.part i (by omega)) (e1.2 i (by omega)) (hr.1.2.2 i hi).2
   ·have hl:el=m.el.len:=e2.1;exact ih2 i (by omega) _ (hm.el.part i (by omega)) (e2.2 i (by omega)) (hr.2.2.2 i hi).2
theorem zw2 {w0 u:World}{Q:Nat→Prop}{b s:Ns}(hb:Below w0.heap.size w0 u)(h:b.At w0)(he:b.eqv s)(hr:s.Rw u Q):s.At u:=⟨fun hp=>(hr.nil hp).1,hr.bound,fun i hi=>(hr.part i hi).1,fun i hi=>at_eqv hb _ _ (h.part i (by rw[←he.1];exact hi)) (he.2 i (by rw[←he.1];exact hi)) (hr.part i hi).2⟩
theorem zu8 {f h:Nat→Nat}{k:Nat}(hk:4096<rcL f h k):∀m,k≤m→rcL f h m=rcL f h k:=by
  intro m hm
  induction m with
  | zero => have : k = 0 := by omega
            subst this; rfl
  | succ m ih =>
    rcases Nat.lt_or_ge m k with h1 | h1
    · have:k=m+1:=by omega
      subst this;rfl
    · have e:=ih h1
      show (if 4096<rcL f h m then rcL f h m else _)=_
      rw[e,if_pos hk]
def zdu (s:Ns):Prop:=∀(d:Nat) (x:Int) (w:World),x=d→d≤64→s.At w→Calls Tryz.prog 78 #[.slice s.ao s.len s.cap,.int .i64 x] w fun e w'=>e=.returned (.int .i64 (s.rc d:Nat))∧Below w.heap.size w w'
theorem zgq (s:Ns)(ih:∀i,i<s.len→zdu (s.ps i).bd∧zdu (s.ps i).el):zdu s:=by
 intro d x w hx hd hs;have HH:=hid (show (∀i,i<s.len→zdu (s.ps i).bd∧zdu (s.ps i).el)∧s.At w from ⟨ih,hs⟩);have HG:Hid (s.rc d=rcS s.len d (fun i=>((s.ps i).rc (d - 1)).1) (fun i=>((s.ps i).rc (d - 1)).2)):=by show _=_;rfl
 have hnil:0<s.len→s.ao=some ⟨s.b,s.o,none⟩:=hs.nil;have hbd:s.len≤9223372036854775807:=hs.bound;have HI:=hid (Below.refl w.heap.size w);subst hx;clear ih hs;generalize s.rc d=R at *;generalize hlen:s.len=len at *;have HL:Hid (s.len=len):=hlen;clear hlen;generalize s.ao=ao at *;generalize s.cap=cap at *;have F1:∀i,((s.ps i).rc (d - 1)).1≤4097:=fun i=>by rw[Nd.rc_eq];exact zh1 _ _ _ _
 have F2:∀i,((s.ps i).rc (d - 1)).2≤4097:=fun i=>by rw[Nd.rc_eq];exact zh1 _ _ _ _
 have HF:=hid (show (∀i,((s.ps i).rc (d - 1)).1≤4097)∧∀i,((s.ps i).rc (d - 1)).2≤4097 from ⟨F1,F2⟩);clear F1 F2;by_cases h0:0<len∧d=0
 ·have HR:Hid (R=4097):=by show _=_;rw[HG.out];unfold rcS;rw[if_pos h0]
  obtain⟨h1,h2⟩:=h0;subst h2;have d1:decide ((0:Int)<len)=true:=by simp;omega
  go_enter Tryz.func78,Tryz.ntmps78
  go_wp2;go_ret;exact⟨zat (by rw[HR.out];rfl),HI.out⟩
 ·have HR:Hid (R=min (rcL (fun i=>((s.ps i).rc (d - 1)).1) (fun i=>((s.ps i).rc (d - 1)).2) len) 4097):=by show _=_;rw[HG.out];unfold rcS;rw[if_neg h0]
  have HD:Hid (0<len→0<d):=by intro h;omega
  go_enter Tryz.func78,Tryz.ntmps78
  go_upto_region 2 with fail
  go_cut [13] (fun c wx=>c=.bool false∧Hid (Below w.heap.size w wx))
  case first =>
   by_cases h1:0<len
   ·have d1:decide ((0:Int)<len)=true:=by simp;omega
    have d2:((d:Int)==0)=false:=beqI (by omega);clear h0;go_wp2;go_meet
    case rel=>exact⟨rfl,HI.out⟩
   ·have d1:decide ((0:Int)<len)=false:=by simp;omega
    clear h0;go_wp2;go_meet
    case rel=>exact⟨rfl,HI.out⟩
  case rest =>
   obtain⟨rfl,hI⟩:=hcut;clear HI h0;have HI:=hid hI.out;clear hI;go_wp2;go_loopw [5,6] (fun nv i wr=>∃(k:Nat) (n:Nat),k≤len∧i=.int .i64 k∧nv=.int .i64 n∧Hid (n=rcL (fun i=>((s.ps i).rc (d - 1)).1) (fun i=>((s.ps i).rc (d - 1)).2) k)∧n≤12291∧Below w.heap.size w wr) (fun _ i _=>len - (intOf i).toNat)
   case atStart=>exact⟨0,0,Nat.zero_le _,rfl,rfl,rfl,by omega,HI.out⟩
   case round =>
    clear HI;obtain⟨k,n,hk,rfl,rfl,hn,hn2,hB⟩:=hrel;have HI:=hid hB;have HM:=hid hn.out;clear hB hn;by_cases hlt:k<len
    ·have ij:(k:Int)<len:=by omega
     have a0:=hnil (by omega);subst a0;by_cases hfull:n≤4096
     ·have d1:decide ((n:Int)≤4096)=true:=by simp;omega
      have hlt':k<s.len:=by rw[HL.out];exact hlt
      have HN:=hid (show (s.ps k).At wr∧wr.rangeAt s.b (s.o+k*14) (s.ps k).vs∧zdu (s.ps k).bd∧zdu (s.ps k).el∧((s.ps k).rc (d - 1))=((s.ps k).bd.rc (d - 1),(s.ps k).el.rc (d - 1)) from ⟨(HH.out.2.kept HI.out).part k hlt',(HH.out.2.kept HI.out).cells k hlt',(HH.out.1 k hlt).1,(HH.out.1 k hlt).2,Nd.rc_eq _ _⟩);have HD1:Hid (0<d):=HD.out (by omega);have c12:wr.cell? ⟨s.b,s.o+k*14+12,none⟩=some (.slice (s.ps k).bd.ao (s.ps k).bd.len (s.ps k).bd.cap):=HN.out.2.1 12 _ rfl;have HS:Hid (rcL (fun i=>((s.ps i).rc (d - 1)).1) (fun i=>((s.ps i).rc (d - 1)).2) (k+1)=if n+(1+(s.ps k).bd.rc (d - 1))≤4096 then n+(1+(s.ps k).bd.rc (d - 1))+(s.ps k).el.rc (d - 1) else n+(1+(s.ps k).bd.rc (d - 1))):=by
       show (if 4096<rcL _ _ k then _ else if rcL _ _ k+(1+((s.ps k).rc (d - 1)).1)≤4096 then rcL _ _ k+(1+((s.ps k).rc (d - 1)).1)+((s.ps k).rc (d - 1)).2 else rcL _ _ k+(1+((s.ps k).rc (d - 1)).1))=_
       rw[←HM.out,if_neg (by omega),HN.out.2.2.2.2]
      have HF1:=hid (show (s.ps k).bd.rc (d - 1)≤4097∧(s.ps k).el.rc (d - 1)≤4097 from ⟨zh1 _ _ _ _,zh1 _ _ _ _⟩);clear hlt';generalize s.ps k=nd at *;go_wp2_with fail
      refine Calls.mono (HN.out.2.2.1 (d - 1) _ wr (by have:=HD1.out;omega) (by omega) HN.out.1.bd) ?_
      rintro _ w1 ⟨rfl,hb1⟩;have HN1:=hid (show nd.At w1∧w1.rangeAt s.b (s.o+k*14) nd.vs∧Below w.heap.size w w1 from ⟨HN.out.1.kept hb1,zbx HN.out.2.1 hb1,Below.next HI.out hb1⟩);clear hb1 c12 d1;obtain⟨c1,hc1⟩:∃y,y=nd.bd.rc (d - 1):=⟨_,rfl⟩;rw[←hc1] at HS HF1 ⊢;clear hc1;have hc17:=HF1.out.1;by_cases h2:n+(1+c1)≤4096
      ·have d2:decide ((n:Int)+(1+c1)≤4096)=true:=by simp;omega
       have c13:w1.cell? ⟨s.b,s.o+k*14+13,none⟩=some (.slice nd.el.ao nd.el.len nd.el.cap):=HN1.out.2.1 13 _ rfl;go_wp2_with fail
       refine Calls.mono (HN.out.2.2.2.1 (d - 1) _ w1 (by have:=HD1.out;omega) (by omega) HN1.out.1.el) ?_
       rintro _ w2 ⟨rfl,hb2⟩;have HB2:=hid (Below.next HN1.out.2.2 hb2);have HS2:Hid (rcL (fun i=>((s.ps i).rc (d - 1)).1) (fun i=>((s.ps i).rc (d - 1)).2) (k+1)=n+(1+c1)+nd.el.rc (d - 1)):=by show _=_;rw[HS.out,if_pos h2]
       obtain⟨c2,hc2⟩:∃y,y=nd.el.rc (d - 1):=⟨_,rfl⟩;rw[←hc2] at HS2 HF1 ⊢;have hc27:=HF1.out.2;clear hb2 c13 d2 HN1 HS hc2;go_wp2;go_roundw
       case rel=>exact⟨k+1,n+(1+c1)+c2,by omega,by go_num,by go_num,HS2.out.symm,by omega,HB2.out⟩
       case measure=>simp[intOf];omega
      ·have d2:decide ((n:Int)+(1+c1)≤4096)=false:=by simp;omega
       have HS2:Hid (rcL (fun i=>((s.ps i).rc (d - 1)).1) (fun i=>((s.ps i).rc (d - 1)).2) (k+1)=n+(1+c1)):=by show _=_;rw[HS.out,if_neg h2]
       clear HS;go_wp2;go_roundw
       case rel=>exact⟨k+1,n+(1+c1),by omega,by go_num,by go_num,HS2.out.symm,by omega,HN1.out.2.2⟩
       case measure=>simp[intOf];omega
     ·have d1:decide ((n:Int)≤4096)=false:=by simp;omega
      have HE:Hid (R=4097):=by
       show _=_
       rw[HR.out,zu8 (k:=k) (by rw[←HM.out];omega) len hk,←HM.out]
       omega
      go_wp2
      all_goals
       go_ret;exact⟨zat (by have:=HE.out;omega),HI.out⟩
    ·have e2:k=len:=by omega
     subst e2;have dd:¬(k:Int)<k:=by omega
     have HE:Hid ((R:Int)=min (n:Int) 4097):=by
      show _=_
      rw[HR.out,←HM.out];omega
     go_wp2
     all_goals
      go_ret;exact⟨zat (by have:=HE.out;omega),HI.out⟩
theorem zsd:∀n:Nd,zdu n.bd∧zdu n.el:=by
 intro n
 induction n using Nd.ind with
 | h n ih1 ih2=>exact⟨zgq _ ih1,zgq _ ih2⟩
theorem zqf (s:Ns):zdu s:=zgq s fun i _=>zsd (s.ps i)
theorem zpr (s:Ns)(w:World)(hs:s.At w):Calls Tryz.prog 45 #[.slice s.ao s.len s.cap] w fun e w'=>e=.returned (.int .i64 (s.rc 64:Nat))∧Below w.heap.size w w':=by
 have h:=zqf s 64 64 w rfl (by omega) hs;go_enter Tryz.func45,Tryz.ntmps45
 go_wp2_with fail
 refine Calls.mono h ?_;rintro _ w1 ⟨rfl,hb1⟩;go_wp2;go_ret;exact⟨rfl,hb1⟩
end
end Go.Proofs.YtgioppfoceddfaaGreat
