import Derived.Test.YtfobijdkoeifjaaGreatDoorP1
set_option maxRecDepth 100000
set_option maxHeartbeats 32000000
namespace Go.Proofs.YtfobijdkoeifjaaGreatDoor
section
open Go.RowKit
theorem zis (r:Int)(w:World) :
  Calls Tryz.prog 181 #[.int .i32 r] w fun e w'=>e=.returned (.bool (za0 r))∧w'=w:=by
 go_enter Tryz.func181,Tryz.ntmps181
 go_wp2
 all_goals (go_ret;exact⟨zab (by unfold za0;rw[Bool.eq_iff_iff];simp;omega),rfl⟩)
theorem zdu (r:Int)(b:Bool)(h:za0 r=b)(w:World) :
  Calls Tryz.prog 181 #[.int .i32 r] w fun e w'=>e=.returned (.bool b)∧w'=w:=by
 subst h;exact zis r w
theorem znw {r:Int}(h:r<48∨57<r):zb2 r=false:=by
 unfold zb2;rw[Bool.and_eq_false_iff,decide_eq_false_iff_not,decide_eq_false_iff_not];omega
theorem zrn {r:Int}(h:128≤r)(h2:r<945):za0 r=false:=by
 unfold za0;simp only[Bool.or_eq_false_iff,Bool.and_eq_false_iff,decide_eq_false_iff_not];omega
theorem zfp {r:Int}(h:945≤r)(h2:r≤969):za0 r=true:=by
 unfold za0;simp only[Bool.or_eq_true,Bool.and_eq_true,decide_eq_true_eq];omega
theorem zkv (s:ByteArray)(i:Nat)(h:i<s.size):s.get! i=s[i]'h:=get_at s i h
def zcm (s:ByteArray)(i k:Nat):Bool:=if k≤16 then nameFrom s (17 - k) i k else false
theorem zi9 {s:ByteArray}{i k:Nat}(hi:i<s.size)(h:zbt k (Utf8.decode s i).1=true):zcm s i k=false:=by
 unfold zcm;split
 ·exact zhu (by assumption) hi h
 ·rfl
theorem zhl {s:ByteArray}{i k:Nat}(hi:i<s.size)(h:za0 (Utf8.decode s i).1=true∨(k≠0∧zb2 (Utf8.decode s i).1=true)):zcm s i k=zcm s (i+(Utf8.decode s i).2) (k+1):=by
 by_cases h16:k<16
 ·have hb:zbt k (Utf8.decode s i).1=false:=by
   unfold zbt;rw[beq_eq_false_iff_ne.2 (show k≠16 by omega)];rcases h with h | ⟨hk,h⟩
   ·rw[h];rfl
   ·rw[h,beq_eq_false_iff_ne.2 hk];simp
  unfold zcm;rw[if_pos (by omega),if_pos (by omega)];exact zg3 (by omega) hi hb
 ·have e1:zcm s i k=false:=by
   by_cases e:k=16
   ·subst e;exact zi9 hi (by simp[zbt])
   ·unfold zcm;rw[if_neg (by omega)]
  have e2:zcm s (i+(Utf8.decode s i).2) (k+1)=false:=by unfold zcm;rw[if_neg (by omega)]
  rw[e1,e2]
theorem ztp {s:ByteArray}{i k:Nat}(hi:¬i<s.size):zcm s i k=(decide (1≤k)&&decide (k≤16)):=by
 unfold zcm;by_cases h:k≤16
 ·rw[if_pos h,zg9 h hi];simp[h];rfl
 ·rw[if_neg h];simp[h]
theorem zr2 {k:Nat}{r:Int}(h1:za0 r=false)(h2:k=0∨zb2 r=false):zbt k r=true:=by
 unfold zbt;rcases h2 with rfl | h2
 ·simp[h1]
 ·simp[h1,h2]
theorem zso {s:ByteArray}{i:Nat}(hi:i<s.size)(hb:128≤(s[i]'hi).toNat)(h:¬(∃h1:i+1<s.size,((s[i]'hi).toNat=206∧177≤(s[i+1]'h1).toNat∧(s[i+1]'h1).toNat≤191)∨((s[i]'hi).toNat=207∧128≤(s[i+1]'h1).toNat∧(s[i+1]'h1).toNat≤137))) :
  za0 (Utf8.decode s i).1=false∧zb2 (Utf8.decode s i).1=false:=by
 have hr:=(decode_high s i hi hb).1;have hd:zb2 ((Utf8.decode s i).1:Nat)=false:=by unfold zb2;rw[Bool.and_eq_false_iff,decide_eq_false_iff_not,decide_eq_false_iff_not];omega
 refine⟨?_,hd⟩;have key:¬(945≤(Utf8.decode s i).1∧(Utf8.decode s i).1≤969):=by
  intro hc;have e0:(s.get! (i+0)).toNat=(s[i]'hi).toNat:=by rw[get_at s i hi]
  simp only[Utf8.decode,e0] at hc;rw[if_neg (by omega)] at hc;split at hc
  ·rename_i hcond
   simp only[Bool.and_eq_true,decide_eq_true_eq,beq_iff_eq] at hcond;obtain⟨q1,q2,q3⟩:=hcond;have e1:(s.get! (i+1)).toNat=(s[i+1]'q2).toNat:=by rw[zkv s (i+1) q2]
   rw[e1] at q3 hc;split at hc
   ·refine h ⟨q2,?_⟩;have:=hc;simp only at this;omega
   ·simp[Utf8.runeError] at hc
  ·split at hc
   ·split at hc
    ·rename_i hcond
     simp only[Bool.and_eq_true,decide_eq_true_eq] at hcond;simp only at hc;omega
    ·simp[Utf8.runeError] at hc
   ·split at hc
    ·split at hc
     ·rename_i hcond
      simp only[Bool.and_eq_true,decide_eq_true_eq] at hcond;simp only at hc;omega
     ·simp[Utf8.runeError] at hc
    ·simp[Utf8.runeError] at hc
 unfold za0;simp only[Bool.or_eq_false_iff,Bool.and_eq_false_iff,decide_eq_false_iff_not];omega
theorem znu {s:ByteArray}{i:Nat}(hi:i<s.size)(h1:i+1<s.size)(h:((s[i]'hi).toNat=206∧177≤(s[i+1]'h1).toNat∧(s[i+1]'h1).toNat≤191)∨((s[i]'hi).toNat=207∧128≤(s[i+1]'h1).toNat∧(s[i+1]'h1).toNat≤137)) :
  Utf8.decode s i=(((s[i]'hi).toNat - 192)*64+((s[i+1]'h1).toNat - 128),2):=by
 have e0:(s.get! (i+0)).toNat=(s[i]'hi).toNat:=by rw[get_at s i hi]
 have e1:(s.get! (i+1)).toNat=(s[i+1]'h1).toNat:=by rw[zkv s (i+1) h1]
 simp only[Utf8.decode,e0,e1];rw[if_neg (by omega),if_pos (by simp only[Bool.and_eq_true,decide_eq_true_eq,beq_iff_eq];omega),if_pos (by omega)]
 refine Prod.ext ?_ rfl;show (s[i]'hi).toNat % 32*64+(s[i+1]'h1).toNat % 64=_
 omega
theorem ztd (s:ByteArray)(w:World)(hs:s.size≤9223372036854775807) :
  Calls Tryz.prog 133 #[.string s] w fun e w'=>e=.returned (.bool (zbz s))∧w'=w:=by
 go_enter Tryz.func133,Tryz.ntmps133
 go_wp2
 go_loop [3,4] (fun n i=>∃k j:Nat,j≤s.size∧k≤j∧(k=0→j=0)∧n=.int .i64 k∧i=.int .i64 j∧zbz s=zcm s j k) (fun _ i=>s.size - (intOf i).toNat)
 case atStart=>exact⟨0,0,Nat.zero_le _,Nat.le_refl _,fun _=>rfl,rfl,rfl,rfl⟩
 case round =>
  obtain⟨k,j,hj,hkj,hz,rfl,rfl,hrest⟩:=hrel;have HR:Hid (zbz s=zcm s j k):=hrest;have HZ:Hid (k=0→j=0):=hz;clear hrest hz;by_cases hlt:j<s.size
  ·have bl:=(s[j]'hlt).toNat_lt;by_cases hb:(s[j]'hlt).toNat<128
   ·have hd:=decode_ascii s j hlt hb;have HG:Hid (za0 ((s[j]'hlt).toNat:Nat)=true∨(k≠0∧zb2 ((s[j]'hlt).toNat:Nat)=true)→zbz s=zcm s (j+1) (k+1)):=fun h=>by
     have:=zhl (k:=k) hlt (by rw[hd];exact h)
     rw[hd] at this;exact HR.out.trans this
    have HB:Hid (za0 ((s[j]'hlt).toNat:Nat)=false→(k=0∨zb2 ((s[j]'hlt).toNat:Nat)=false)→zbz s=false):=fun h1 h2=>HR.out.trans (zi9 hlt (by rw[hd];exact zr2 h1 h2))
    clear HR hd;go_wp2_with (go_at_call 181;refine (zis _ _).mono ?_;rintro e w' ⟨rfl,rfl⟩)
    ·have t1:za0 ((s[j]'hlt).toNat:Nat)=true:=by assumption
     go_round
     case rel=>exact⟨k+1,j+1,by omega,by omega,fun h=>by omega,by go_num,by go_num,HG.out (Or.inl t1)⟩
     case measure=>simp[intOf];omega
    ·have t1:¬za0 ((s[j]'hlt).toNat:Nat)=true:=by assumption
     have t2:j=0:=by assumption
     go_ret;exact⟨zab (HB.out (by simpa using t1) (Or.inl (by omega))).symm,rfl⟩
    ·have t1:¬za0 ((s[j]'hlt).toNat:Nat)=true:=by assumption
     have t2:(((j:Int)==0)=true∨((s[j]'hlt).toNat:Int)<48)∨(57:Int)<((s[j]'hlt).toNat:Int):=by assumption
     have t3:¬j=0:=by assumption
     go_ret;refine⟨zab (HB.out (by simpa using t1) (Or.inr (znw ?_))).symm,rfl⟩;rcases t2 with (t2 | t2) | t2
     ·exact absurd (by simpa using t2) t3
     ·exact Or.inl t2
     ·exact Or.inr t2
    ·have t2:(((j:Int)==0)=false∧(48:Int)≤((s[j]'hlt).toNat:Int))∧((s[j]'hlt).toNat:Int)≤57:=by assumption
     have t3:¬j=0:=by assumption
     go_round
     case rel=>exact⟨k+1,j+1,by omega,by omega,fun h=>by omega,by go_num,by go_num,HG.out (Or.inr ⟨fun h=>t3 (HZ.out h),by unfold zb2;rw[Bool.and_eq_true,decide_eq_true_eq,decide_eq_true_eq];omega⟩)⟩
     case measure=>simp[intOf];omega
    ·have t1:¬za0 ((s[j]'hlt).toNat:Nat)=true:=by assumption
     have t2:((s[j]'hlt).toNat:Int)<48:=by assumption
     go_ret;exact⟨zab (HB.out (by simpa using t1) (Or.inr (znw (Or.inl t2)))).symm,rfl⟩
   ·by_cases hg:∃h1:j+1<s.size,((s[j]'hlt).toNat=206∧177≤(s[j+1]'h1).toNat∧(s[j+1]'h1).toNat≤191)∨((s[j]'hlt).toNat=207∧128≤(s[j+1]'h1).toNat∧(s[j+1]'h1).toNat≤137)
    ·obtain⟨h1,hg⟩:=hg;have hd:=znu hlt h1 hg;have bl1:=(s[j+1]'h1).toNat_lt;rcases hg with ⟨q1,q2,q3⟩ | ⟨q1,q2,q3⟩
     ·rw[q1] at hd;have HG:Hid (zbz s=zcm s (j+2) (k+1)):=by
       have:=zhl (k:=k) hlt (Or.inl (by rw[hd];exact zfp (by show (945:Int)≤_;simp only;omega) (by simp only;omega)))
       rw[hd] at this;exact HR.out.trans this
      have nl:za0 (896+(((s[j+1]'h1).toNat:Int) - 128))=true:=zfp (by omega) (by omega);clear HR hd;go_wp2_with (go_at_call 181;refine (zdu _ true nl _).mono ?_;rintro e w' ⟨rfl,rfl⟩)
      go_round
      case rel=>exact⟨k+1,j+2,by omega,by omega,fun h=>by omega,by go_num,by go_num,HG.out⟩
      case measure=>simp[intOf];omega
     ·rw[q1] at hd;have HG:Hid (zbz s=zcm s (j+2) (k+1)):=by
       have:=zhl (k:=k) hlt (Or.inl (by rw[hd];exact zfp (by show (945:Int)≤_;simp only;omega) (by simp only;omega)))
       rw[hd] at this;exact HR.out.trans this
      have nl:za0 (960+(((s[j+1]'h1).toNat:Int) - 128))=true:=zfp (by omega) (by omega);clear HR hd;go_wp2_with (go_at_call 181;refine (zdu _ true nl _).mono ?_;rintro e w' ⟨rfl,rfl⟩)
      go_round
      case rel=>exact⟨k+1,j+2,by omega,by omega,fun h=>by omega,by go_num,by go_num,HG.out⟩
      case measure=>simp[intOf];omega
    ·have hd:=zso hlt (by omega) hg;have HN:Hid (zbz s=false):=HR.out.trans (zi9 hlt (zr2 hd.1 (Or.inr hd.2)));have nl:za0 ((s[j]'hlt).toNat:Nat)=false:=zrn (by omega) (by omega);clear HR hd;by_cases h1:j+1<s.size
     ·have bl1:=(s[j+1]'h1).toNat_lt;have hg':¬(((s[j]'hlt).toNat=206∧177≤(s[j+1]'h1).toNat∧(s[j+1]'h1).toNat≤191)∨((s[j]'hlt).toNat=207∧128≤(s[j+1]'h1).toNat∧(s[j+1]'h1).toNat≤137)):=fun h=>hg ⟨h1,h⟩;clear hg;have HG:Hid (¬(((s[j]'hlt).toNat=206∧177≤(s[j+1]'h1).toNat∧(s[j+1]'h1).toNat≤191)∨((s[j]'hlt).toNat=207∧128≤(s[j+1]'h1).toNat∧(s[j+1]'h1).toNat≤137))):=hg';clear hg';by_cases e6:(s[j]'hlt).toNat=206
      ·have f7:(s[j+1]'h1).toNat<177∨191<(s[j+1]'h1).toNat:=by have:=HG.out;omega
       have b6:(((s[j]'hlt).toNat:Int)==206)=true:=beq_iff_eq.2 (by omega);have b7:(((s[j]'hlt).toNat:Int)==207)=false:=beq_eq_false_iff_ne.2 (by omega);clear e6;rcases f7 with f7 | f7
       all_goals
        go_wp2_with (go_at_call 181;refine (zdu _ false nl _).mono ?_;rintro e w' ⟨rfl,rfl⟩)
        all_goals (go_ret;exact⟨zab HN.out.symm,rfl⟩)
      ·have b6:(((s[j]'hlt).toNat:Int)==206)=false:=beq_eq_false_iff_ne.2 (by omega);by_cases e7:(s[j]'hlt).toNat=207
       ·have f7:(s[j+1]'h1).toNat<128∨137<(s[j+1]'h1).toNat:=by have:=HG.out;omega
        have b7:(((s[j]'hlt).toNat:Int)==207)=true:=beq_iff_eq.2 (by omega);clear e6 e7;rcases f7 with f7 | f7
        all_goals
         go_wp2_with (go_at_call 181;refine (zdu _ false nl _).mono ?_;rintro e w' ⟨rfl,rfl⟩)
         all_goals (go_ret;exact⟨zab HN.out.symm,rfl⟩)
       ·have b7:(((s[j]'hlt).toNat:Int)==207)=false:=beq_eq_false_iff_ne.2 (by omega);clear e6 e7;go_wp2_with (go_at_call 181;refine (zdu _ false nl _).mono ?_;rintro e w' ⟨rfl,rfl⟩)
        all_goals (go_ret;exact⟨zab HN.out.symm,rfl⟩)
     ·clear hg;go_wp2;go_ret;exact⟨zab HN.out.symm,rfl⟩
  ·have HE:Hid (zbz s=(decide (1≤k)&&decide (k≤16))):=HR.out.trans (ztp hlt);go_wp2
   ·have t:(1:Int)≤k:=by assumption
    go_ret;exact⟨zab (by rw[HE.out,decide_eq_true (show 1≤k by omega),Bool.true_and];exact decide_eq_decide.2 (by omega)),rfl⟩
   ·have t:(k:Int)<1:=by assumption
    go_ret;exact⟨zab (by rw[HE.out,decide_eq_false (show ¬1≤k by omega)];rfl),rfl⟩
end
end Go.Proofs.YtfobijdkoeifjaaGreatDoor
