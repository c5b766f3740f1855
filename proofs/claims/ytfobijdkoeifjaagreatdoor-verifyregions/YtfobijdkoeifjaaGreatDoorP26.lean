import Derived.Test.YtfobijdkoeifjaaGreatDoorP25
import Derived.Test.YtfobijdkoeifjaaGreatDoorP15
import Derived.Test.YtfobijdkoeifjaaGreatDoorP8
set_option maxRecDepth 100000
set_option maxHeartbeats 32000000
namespace Go.Proofs.YtfobijdkoeifjaaGreatDoor
section
open Go Go.RowKit
structure Hz (BF BG BX B7 BH:Nat)(l:Cf)(g:Rw Bool)(x:Rn)(m:Nat→Bool)(u:World):Prop where
 bF:Blk u BF l.vs 44
 bG:Blk u BG [.slice g.ao g.len g.cap] 34
 bX:Blk u BX x.vs 53
 b7:Blk u B7 [.slice (some ⟨BH,0,none⟩) l.cd.len l.cd.len] 34
 bH:Blk u BH (bvL m l.cd.len) 4
 lat:l.At u
 gat:BlAt u g
theorem Hz.kept {BF BG BX B7 BH:Nat}{l:Cf}{g:Rw Bool}{x:Rn}{m:Nat→Bool}{u u':World}(h:Hz BF BG BX B7 BH l g x m u)(hb:Below u.heap.size u u'):Hz BF BG BX B7 BH l g x m u':=⟨h.bF.kept hb,h.bG.kept hb,h.bX.kept hb,h.b7.kept hb,h.bH.kept hb,Cf.At.kept hb h.lat,h.gat.kept hb⟩
noncomputable def styB (l:Cf) (g:Rw Bool) (j:Int) (m:Nat→Bool) (p:Nat):Bool:=open Classical in decide (∀b ∈ l.ws g p,m b.toNat=true∨b=j)
def remB (l:Cf)(g:Rw Bool)(j:Int)(p:Nat):Bool:=decide (j=-1)||!l.lv g p
noncomputable def ehB (m:Nat→Bool) (A:Nat→Bool) (n:Nat):Bool:=open Classical in decide (∀p,p<n→m p=true→A p=true)
theorem zlz (BF BG BX B7 BH:Nat)(l:Cf)(g:Rw Bool)(x:Rn)(m:Nat→Bool)(p:Nat)(w:World)(h:Hz BF BG BX B7 BH l g x m w)(hp:p<l.cd.len)(hn:l.cd.len≤100000):Calls Tryz.prog 41 #[.int .i64 p,.pointer (some ⟨BF,0,none⟩),.pointer (some ⟨BG,0,none⟩),.pointer (some ⟨B7,0,none⟩),.pointer (some ⟨BX,0,none⟩)] w fun e w'=>e=.returned (.bool (styB l g x.join m p))∧Below w.heap.size w w':=by
 have HY:Hid ((∀b ∈ l.ws g p,m b.toNat=true∨b=x.join)→styB l g x.join m p=true):=fun h=>by unfold styB;simpa using h
 have HN:Hid (∀b ∈ l.ws g p,¬(m b.toNat=true∨b=x.join)→styB l g x.join m p=false):=fun b hb h=>by
  unfold styB;rw[decide_eq_false_iff_not];exact fun k=>h (k b hb)
 have H1:=hyd h;generalize styB l g x.join m p=R at *;have h0:=znf l g p w h.lat h.gat hp;have rF:=h.bF.range;have cG:=h.bG.cell 0 rfl;clear h;go_enter Tryz.func41,Tryz.ntmps41
 go_wp2_with (refine wpList_load_mid rfl 44 (.tmp 1) rfl BF 0 (by kernel_rfl) l.vs _ rF Tryz.underlying44 rfl (by kernel_rfl) ?_)
 refine h0.mono ?_;rintro _ u2 ⟨v,rfl,hO,hb⟩;obtain⟨rw1,rfl,hrw,hrwl⟩:=hO.readW hn;have H2:=hyd (show (Hz BF BG BX B7 BH l g x m u2∧NmAt u2 rw1)∧Below w.heap.size w u2 from ⟨⟨H1.out.kept hb,hrw⟩,hb⟩);have HWS:Hid (∀k,k<rw1.len→∃q:Nat,rw1.x k=q∧q<l.cd.len):=fun k hk=>by
  have h1:rw1.x k ∈ rw1.ls:=Rw.mem_ls.2 ⟨k,hk,rfl⟩;rw[hrwl] at h1;obtain⟨q,e,hq⟩:=zfb.1 h1;exact⟨q,e,hq.1⟩
 have HWI:Hid (∀k,k<rw1.len→rw1.x k ∈ l.ws g p):=fun k hk=>by rw[←hrwl];exact Rw.mem_ls.2 ⟨k,hk,rfl⟩
 have HWA:Hid ((∀k,k<rw1.len→m (rw1.x k).toNat=true∨rw1.x k=x.join)→R=true):=fun h=>HY.out (fun b hb=>by
  rw[←hrwl] at hb;obtain⟨k,hk,rfl⟩:=Rw.mem_ls.1 hb;exact h k hk)
 have hbr:=hrw.bound;have HNR:=hyd hrw.nil;clear h0 hO hrw hrwl hb H1 rF cG HY;go_wp2;go_loopw [14] (fun i wr=>∃(k:Nat),k≤rw1.len∧i=.int .i64 k∧((Hz BF BG BX B7 BH l g x m wr∧NmAt wr rw1)∧Below w.heap.size w wr)∧∀j,j<k→m (rw1.x j).toNat=true∨rw1.x j=x.join) (fun i _=>rw1.len - (intOf i).toNat)
 case atStart=>exact⟨0,Nat.zero_le _,rfl,H2.out,fun j hj=>absurd hj (Nat.not_lt_zero _)⟩
 case round =>
  clear H2;obtain⟨k,hk,rfl,hB,hall⟩:=hrel;have HB:=hyd hB;have HL:=hyd hall;clear hB hall;by_cases hlt:k<rw1.len
  ·have ik:(k:Int)<rw1.len:=by omega
   have r0:=HB.out.1.2.row k hlt 0 _ rfl;simp only[Nat.add_zero,Nat.mul_one] at r0;obtain⟨q,hq,hql⟩:=HWS.out k hlt;have HN2:=hyd (HN.out _ (HWI.out k hlt));have HL2:Hid (m (rw1.x k).toNat=true∨rw1.x k=x.join→∀j,j<k+1→m (rw1.x j).toNat=true∨rw1.x j=x.join):=fun h j hj=>by
    by_cases e:j=k
    ·rw[e];exact h
    ·exact HL.out j (by omega)
   rw[hq] at r0 HN2 HL2;rw[Int.toNat_natCast] at HN2 HL2;rw[HNR.out (by omega)];have c7:=HB.out.1.1.b7.cell 0 rfl;have cH:=HB.out.1.1.bH.cell q (zea m hql);have cX:=HB.out.1.1.bX.cell 1 rfl;have iq:(q:Int)<l.cd.len:=by omega
   have HB1:=hyd HB.out;clear HB HL hq;generalize x.join=xj at *;cases hm:m q
   ·rw[hm] at cH HN2 HL2;by_cases ej:(q:Int)=xj
    ·have e1:((q:Int) != xj)=false:=by simpa using ej
     have HE:=hyd (HL2.out (Or.inr ej));clear HN2 HL2 hm ej;go_wp2;go_roundw
     case rel=>exact⟨k+1,by omega,by go_num,HB1.out,HE.out⟩
     case measure=>simp[intOf];omega
    ·have e1:((q:Int) != xj)=true:=by simpa using ej
     have HE:Hid (R=false):=HN2.out (fun h=>by
      rcases h with h | h
      ·cases h
      ·exact ej h)
     clear HN2 HL2 hm ej;go_wp2;go_ret;exact⟨zaa HE.out.symm,HB1.out.2⟩
   ·rw[hm] at cH HL2;have HE:=hyd (HL2.out (Or.inl rfl));clear HN2 HL2 hm;go_wp2;go_roundw
    case rel=>exact⟨k+1,by omega,by go_num,HB1.out,HE.out⟩
    case measure=>simp[intOf];omega
  ·have ik:¬(k:Int)<rw1.len:=by omega
   have HE:Hid (R=true):=HWA.out (fun j hj=>HL.out j (by omega));go_wp2;go_ret;exact⟨zaa HE.out.symm,HB.out.2⟩
theorem zi0 (BF BG BX B7 BH:Nat)(l:Cf)(g:Rw Bool)(x:Rn)(m:Nat→Bool)(p:Nat)(w:World)(h:Hz BF BG BX B7 BH l g x m w)(hp:p<l.cd.len):Calls Tryz.prog 43 #[.int .i64 p,.pointer (some ⟨BX,0,none⟩),.pointer (some ⟨BF,0,none⟩),.pointer (some ⟨BG,0,none⟩)] w fun e w'=>e=.returned (.bool (remB l g x.join p))∧Below w.heap.size w w':=by
 have HR:Hid (remB l g x.join p=(decide (x.join=-1)||!l.lv g p)):=rfl;generalize remB l g x.join p=R at *;have h0:=zpz l g p w h.lat h.gat hp;have rF:=h.bF.range;have cG:=h.bG.cell 0 rfl;have cX:=h.bX.cell 1 rfl;clear h;generalize x.join=xj at *;generalize l.lv g p=lb at *;by_cases ej:xj=-1
 ·subst ej;have HE:Hid (R=true):=HR.out;clear h0 HR;go_enter Tryz.func43,Tryz.ntmps43
  go_wp2;go_ret;exact⟨zaa HE.out.symm,Below.refl _ _⟩
 ·have e1:(xj==-1)=false:=by simpa using ej
  have HE:Hid (R=!lb):=by show _=_;rw[HR.out,decide_eq_false ej];rfl
  clear ej HR;go_enter Tryz.func43,Tryz.ntmps43
  go_wp2_with (refine zco (by kernel_rfl) 44 (.tmp 2) rfl BF 0 (by kernel_rfl) l.vs _ rF Tryz.underlying44 rfl (by kernel_rfl) ?_)
  refine h0.mono ?_;rintro _ u2 ⟨rfl,hb⟩;have H2:=hyd hb;clear h0 hb rF cG cX;cases lb
  ·have HE2:Hid (R=true):=HE.out;clear HE;go_wp2;go_ret;exact⟨zaa HE2.out.symm,H2.out⟩
  ·have HE2:Hid (R=false):=HE.out;clear HE;go_wp2;go_ret;exact⟨zaa HE2.out.symm,H2.out⟩
theorem zmh (BF BG BX B7 BH:Nat)(l:Cf)(g:Rw Bool)(x:Rn)(m:Nat→Bool)(w:World)(h:Hz BF BG BX B7 BH l g x m w)(hn:l.cd.len≤100000):Calls Tryz.prog 45 #[.slice (some ⟨BH,0,none⟩) l.cd.len l.cd.len,.func (.func 41) #[] #[.pointer (some ⟨BF,0,none⟩),.pointer (some ⟨BG,0,none⟩),.pointer (some ⟨B7,0,none⟩),.pointer (some ⟨BX,0,none⟩)]] w fun e w'=>e=.returned (.bool (ehB m (styB l g x.join m) l.cd.len))∧Below w.heap.size w w':=by
 have HY:Hid ((∀p,p<l.cd.len→m p=true→styB l g x.join m p=true)→ehB m (styB l g x.join m) l.cd.len=true):=fun h=>by unfold ehB;simpa using h
 have HN:Hid (∀p,p<l.cd.len→m p=true→styB l g x.join m p=false→ehB m (styB l g x.join m) l.cd.len=false):=fun p hp h1 h2=>by
  unfold ehB;rw[decide_eq_false_iff_not];intro k;have:=k p hp h1;rw[h2] at this;cases this
 have H1:=hyd h;have HC:Hid (∀p u,p<l.cd.len→Hz BF BG BX B7 BH l g x m u→Calls Tryz.prog 41 #[.int .i64 (p:Nat),.pointer (some ⟨BF,0,none⟩),.pointer (some ⟨BG,0,none⟩),.pointer (some ⟨B7,0,none⟩),.pointer (some ⟨BX,0,none⟩)] u fun e u'=>e=.returned (.bool (styB l g x.join m p))∧Below u.heap.size u u'):=fun p u hp hu=>zlz BF BG BX B7 BH l g x m p u hu hp hn;generalize ehB m (styB l g x.join m) l.cd.len=R at *;generalize styB l g x.join m=AA at *;clear h;go_enter Tryz.func45,Tryz.ntmps45
 go_wp2;go_loopw [9] (fun i wr=>∃(k:Nat),k≤l.cd.len∧i=.int .i64 k∧(Hz BF BG BX B7 BH l g x m wr∧Below w.heap.size w wr)∧∀p,p<k→m p=true→AA p=true) (fun i _=>l.cd.len - (intOf i).toNat)
 case atStart=>exact⟨0,Nat.zero_le _,rfl,⟨H1.out,Below.refl _ _⟩,fun j hj=>absurd hj (Nat.not_lt_zero _)⟩
 case round =>
  clear H1;obtain⟨k,hk,rfl,hB,hall⟩:=hrel;have HB:=hyd hB;have HL:=hyd hall;clear hB hall;by_cases hlt:k<l.cd.len
  ·have ik:(k:Int)<l.cd.len:=by omega
   have cH:=HB.out.1.bH.cell k (zea m hlt);have HL2:Hid ((m k=true→AA k=true)→∀j,j<k+1→m j=true→AA j=true):=fun h j hj=>by
    by_cases e:j=k
    ·rw[e];exact h
    ·exact HL.out j (by omega)
   have HN2:=hyd (HN.out k hlt);have h0:=HC.out k wr hlt HB.out.1;generalize AA k=ab at *;cases hm:m k
   ·rw[hm] at cH HL2;have HE:=hyd (HL2.out (fun h=>by cases h));have HB1:=hyd HB.out;clear HL2 HN2 HL HB hm h0;go_wp2;go_roundw
    case rel=>exact⟨k+1,by omega,by go_num,HB1.out,HE.out⟩
    case measure=>simp[intOf];omega
   ·rw[hm] at cH HL2 HN2;clear HL hm;go_wp2_with fail
    refine h0.mono ?_;rintro _ u3 ⟨rfl,hb⟩;have HB1:=hyd (show Hz BF BG BX B7 BH l g x m u3∧Below w.heap.size w u3 from ⟨HB.out.1.kept hb,Below.next HB.out.2 hb⟩);clear h0 hb HB cH;cases ab
    ·have HE:=hyd (HN2.out (by simp) (by simp));clear HL2 HN2;go_wp2;go_ret;exact⟨zaa HE.out.symm,HB1.out.2⟩
    ·have HE:=hyd (HL2.out (fun _=>rfl));clear HL2 HN2;go_wp2;go_roundw
     case rel=>exact⟨k+1,by omega,by go_num,HB1.out,HE.out⟩
     case measure=>simp[intOf];omega
  ·have ik:¬(k:Int)<l.cd.len:=by omega
   have HE:Hid (R=true):=HY.out (fun j hj=>HL.out j (by omega));go_wp2;go_ret;exact⟨zaa HE.out.symm,HB.out.2⟩
theorem zmd (BF BG BX B7 BH:Nat)(l:Cf)(g:Rw Bool)(x:Rn)(m:Nat→Bool)(w:World)(h:Hz BF BG BX B7 BH l g x m w)(hn:l.cd.len≤100000):Calls Tryz.prog 45 #[.slice (some ⟨BH,0,none⟩) l.cd.len l.cd.len,.func (.func 43) #[] #[.pointer (some ⟨BX,0,none⟩),.pointer (some ⟨BF,0,none⟩),.pointer (some ⟨BG,0,none⟩)]] w fun e w'=>e=.returned (.bool (ehB m (remB l g x.join) l.cd.len))∧Below w.heap.size w w':=by
 have HY:Hid ((∀p,p<l.cd.len→m p=true→remB l g x.join p=true)→ehB m (remB l g x.join) l.cd.len=true):=fun h=>by unfold ehB;simpa using h
 have HN:Hid (∀p,p<l.cd.len→m p=true→remB l g x.join p=false→ehB m (remB l g x.join) l.cd.len=false):=fun p hp h1 h2=>by
  unfold ehB;rw[decide_eq_false_iff_not];intro k;have:=k p hp h1;rw[h2] at this;cases this
 have H1:=hyd h;have HC:Hid (∀p u,p<l.cd.len→Hz BF BG BX B7 BH l g x m u→Calls Tryz.prog 43 #[.int .i64 (p:Nat),.pointer (some ⟨BX,0,none⟩),.pointer (some ⟨BF,0,none⟩),.pointer (some ⟨BG,0,none⟩)] u fun e u'=>e=.returned (.bool (remB l g x.join p))∧Below u.heap.size u u'):=fun p u hp hu=>zi0 BF BG BX B7 BH l g x m p u hu hp;generalize ehB m (remB l g x.join) l.cd.len=R at *;generalize remB l g x.join=AA at *;clear h;go_enter Tryz.func45,Tryz.ntmps45
 go_wp2;go_loopw [9] (fun i wr=>∃(k:Nat),k≤l.cd.len∧i=.int .i64 k∧(Hz BF BG BX B7 BH l g x m wr∧Below w.heap.size w wr)∧∀p,p<k→m p=true→AA p=true) (fun i _=>l.cd.len - (intOf i).toNat)
 case atStart=>exact⟨0,Nat.zero_le _,rfl,⟨H1.out,Below.refl _ _⟩,fun j hj=>absurd hj (Nat.not_lt_zero _)⟩
 case round =>
  clear H1;obtain⟨k,hk,rfl,hB,hall⟩:=hrel;have HB:=hyd hB;have HL:=hyd hall;clear hB hall;by_cases hlt:k<l.cd.len
  ·have ik:(k:Int)<l.cd.len:=by omega
   have cH:=HB.out.1.bH.cell k (zea m hlt);have HL2:Hid ((m k=true→AA k=true)→∀j,j<k+1→m j=true→AA j=true):=fun h j hj=>by
    by_cases e:j=k
    ·rw[e];exact h
    ·exact HL.out j (by omega)
   have HN2:=hyd (HN.out k hlt);have h0:=HC.out k wr hlt HB.out.1;generalize AA k=ab at *;cases hm:m k
   ·rw[hm] at cH HL2;have HE:=hyd (HL2.out (fun h=>by cases h));have HB1:=hyd HB.out;clear HL2 HN2 HL HB hm h0;go_wp2;go_roundw
    case rel=>exact⟨k+1,by omega,by go_num,HB1.out,HE.out⟩
    case measure=>simp[intOf];omega
   ·rw[hm] at cH HL2 HN2;clear HL hm;go_wp2_with fail
    refine h0.mono ?_;rintro _ u3 ⟨rfl,hb⟩;have HB1:=hyd (show Hz BF BG BX B7 BH l g x m u3∧Below w.heap.size w u3 from ⟨HB.out.1.kept hb,Below.next HB.out.2 hb⟩);clear h0 hb HB cH;cases ab
    ·have HE:=hyd (HN2.out (by simp) (by simp));clear HL2 HN2;go_wp2;go_ret;exact⟨zaa HE.out.symm,HB1.out.2⟩
    ·have HE:=hyd (HL2.out (fun _=>rfl));clear HL2 HN2;go_wp2;go_roundw
     case rel=>exact⟨k+1,by omega,by go_num,HB1.out,HE.out⟩
     case measure=>simp[intOf];omega
  ·have ik:¬(k:Int)<l.cd.len:=by omega
   have HE:Hid (R=true):=HY.out (fun j hj=>HL.out j (by omega));go_wp2;go_ret;exact⟨zaa HE.out.symm,HB.out.2⟩
def badB (f:Cf)(x:Rn):Bool:=!f.pl x.at_||(decide (x.join≠-1)&&!f.pl x.join)
def hldB (x:Rn)(p:Nat):Bool:=decide ((p:Int) ∈ x.ps.ls)
theorem zf2 {f:Cf}{g:Rw Bool}{x:Rn}{p:Nat}(hp:p<f.cd.len):styB f g x.join (hldB x) p=true↔f.wit g x p:=by
 unfold styB;rw[decide_eq_true_iff,zsp hp]
 constructor
 ·intro h q hq;rcases h q (zfb.2 ⟨q,rfl,hq.2⟩) with h1 | h1
  ·right;unfold hldB at h1;simpa using h1
  ·exact Or.inl h1
 ·intro h b hb;obtain⟨q,rfl,hq⟩:=zfb.1 hb;rcases h q ⟨hp,hq⟩ with h1 | h1
  ·exact Or.inr h1
  ·left;unfold hldB;simpa using h1
theorem zno {f:Cf}{a:Int}(h:f.pl a=true):∃p:Nat,a=p∧p<f.cd.len:=by
 have:=Cf.pl_iff.1 h;exact⟨a.toNat,by omega,by omega⟩
theorem wit_no {f:Cf}{g:Rw Bool}{x:Rn}{a:Int}(h:f.pl a=false):f.wit g x a:=by
 unfold Cf.wit Cf.wsI;rw[if_neg (by rw[h];simp)]
 intro b hb;cases hb
theorem zse {f:Cf}{g:Rw Bool}{x:Rn}:ehB (hldB x) (styB f g x.join (hldB x)) f.cd.len=true↔¬∃i,i<x.ps.len∧¬f.wit g x (x.ps.x i):=by
 unfold ehB;rw[decide_eq_true_iff]
 constructor
 ·rintro h ⟨i,hi,hw⟩;cases e:f.pl (x.ps.x i)
  ·exact hw (wit_no e)
  ·obtain⟨p,e1,hp⟩:=zno e;rw[e1] at hw;refine hw ((zf2 hp).1 (h p hp ?_));unfold hldB;rw[decide_eq_true_iff,←e1];exact Rw.mem_ls.2 ⟨i,hi,rfl⟩
 ·intro h p hp hm;unfold hldB at hm;rw[decide_eq_true_iff] at hm;obtain⟨i,hi,e⟩:=Rw.mem_ls.1 hm;rw[zf2 hp];by_cases c:f.wit g x p
  ·exact c
  ·exact absurd ⟨i,hi,by rw[e];exact c⟩ h
theorem zrd {f:Cf}{g:Rw Bool}{x:Rn}(hj:x.join≠-1):ehB (hldB x) (remB f g x.join) f.cd.len=true↔¬∃i,i<x.ps.len∧f.lvI g (x.ps.x i)=true:=by
 unfold ehB;rw[decide_eq_true_iff];have hr:∀p,remB f g x.join p=!f.lv g p:=fun p=>by unfold remB;rw[decide_eq_false hj];rfl
 constructor
 ·rintro h ⟨i,hi,hw⟩;cases e:f.pl (x.ps.x i)
  ·unfold Cf.lvI at hw;rw[e] at hw;cases hw
  ·obtain⟨p,e1,hp⟩:=zno e;rw[e1,zhz hp] at hw;have h2:=h p hp (by unfold hldB;rw[decide_eq_true_iff,←e1];exact Rw.mem_ls.2 ⟨i,hi,rfl⟩)
   rw[hr,hw] at h2;cases h2
 ·intro h p hp hm;unfold hldB at hm;rw[decide_eq_true_iff] at hm;obtain⟨i,hi,e⟩:=Rw.mem_ls.1 hm;rw[hr];cases c:f.lv g p
  ·rfl
  ·exact absurd ⟨i,hi,by rw[e,zhz hp];exact c⟩ h
theorem zww {f:Cf}{g:Rw Bool}{x:Rn}{p:Nat}(hj:x.join=-1):remB f g x.join p=true∧ehB (hldB x) (remB f g x.join) f.cd.len=true:=by
 have hr:∀p,remB f g x.join p=true:=fun p=>by unfold remB;rw[decide_eq_true hj];rfl
 refine⟨hr p,?_⟩;unfold ehB;rw[decide_eq_true_iff];exact fun p _ _=>hr p
theorem zie {f:Cf}{x:Rn}:badB f x=true↔f.pl x.at_=false∨(x.join≠-1∧f.pl x.join=false):=by
 unfold badB;simp
theorem zuc {f:Cf}{g:Rw Bool}{x:Rn}(h:badB f x=true):f.hold g x=-1:=by
 unfold Cf.hold;rw[if_pos (zie.1 h)]
theorem zts {f:Cf}{g:Rw Bool}{x:Rn}{p:Nat}(h:badB f x=false)(ha:x.at_=p)(hp:p<f.cd.len)(h1:styB f g x.join (hldB x) p=false):f.hold g x=1:=by
 unfold Cf.hold;rw[if_neg (fun k=>by rw[zie.2 k] at h;cases h),if_pos (fun k=>by rw[ha] at k;rw[(zf2 hp).2 k] at h1;cases h1)]
theorem zt8 {f:Cf}{g:Rw Bool}{x:Rn}{p:Nat}(h:badB f x=false)(ha:x.at_=p)(hp:p<f.cd.len)(h1:styB f g x.join (hldB x) p=true)(h2:ehB (hldB x) (styB f g x.join (hldB x)) f.cd.len=false):f.hold g x=2:=by
 unfold Cf.hold;rw[if_neg (fun k=>by rw[zie.2 k] at h;cases h),if_neg (fun k=>k (by rw[ha];exact (zf2 hp).1 h1)),if_pos]
 by_cases c:∃i,i<x.ps.len∧¬f.wit g x (x.ps.x i)
 ·exact c
 ·rw[zse.2 c] at h2;cases h2
theorem zvf {f:Cf}{g:Rw Bool}{x:Rn}{p:Nat}(h:badB f x=false)(ha:x.at_=p)(hp:p<f.cd.len)(h1:styB f g x.join (hldB x) p=true)(h2:ehB (hldB x) (styB f g x.join (hldB x)) f.cd.len=true) :
  (remB f g x.join p=true→ehB (hldB x) (remB f g x.join) f.cd.len=true→f.hold g x=0)∧(remB f g x.join p=false∨ehB (hldB x) (remB f g x.join) f.cd.len=false→f.hold g x=3):=by
 unfold Cf.hold;rw[if_neg (fun k=>by rw[zie.2 k] at h;cases h),if_neg (fun k=>k (by rw[ha];exact (zf2 hp).1 h1)),if_neg (zse.1 h2)]
 by_cases hj:x.join=-1
 ·rw[if_pos hj];have:=zww (f:=f) (g:=g) (p:=p) hj;refine⟨fun _ _=>rfl,?_⟩;rintro (k | k)
  ·rw[this.1] at k;cases k
  ·rw[this.2] at k;cases k
 ·rw[if_neg hj];have hr:remB f g x.join p=!f.lv g p:=by unfold remB;rw[decide_eq_false hj];rfl
  have hl:f.lvI g x.at_=f.lv g p:=by rw[ha,zhz hp]
  rw[hr,hl]
  constructor
  ·intro k1 k2;rw[if_neg];rintro (k | k)
   ·rw[k] at k1;cases k1
   ·exact (zrd hj).1 k2 k
  ·rintro (k | k)
   ·rw[if_pos]
    left
    cases c:f.lv g p
    ·rw[c] at k;cases k
    ·rfl
   ·rw[if_pos]
    right
    by_cases c:∃i,i<x.ps.len∧f.lvI g (x.ps.x i)=true
    ·exact c
    ·rw[(zrd hj).2 c] at k;cases k
structure Hq (w0:World)(f:Cf)(g:Rw Bool)(x:Rn)(u:World):Prop where
 bl:Below w0.heap.size w0 u
 bF:Blk u w0.heap.size f.vs 44
 bG:Blk u (w0.heap.size+1) [.slice g.ao g.len g.cap] 34
 bX:Blk u (w0.heap.size+2) x.vs 53
theorem Hq.kept {w0:World}{f:Cf}{g:Rw Bool}{x:Rn}{u u':World}(h:Hq w0 f g x u)(hb:Below u.heap.size u u'):Hq w0 f g x u':=⟨Below.next h.bl hb,h.bF.kept hb,h.bG.kept hb,h.bX.kept hb⟩
theorem Ln.sty {f l:Cf}{g:Rw Bool}(h:Ln f g l){j:Int}{m:Nat→Bool}{p:Nat}(hp:p<f.cd.len):styB l g j m p=styB f g j m p:=by unfold styB;rw[h.ws hp]
theorem Ln.rem {f l:Cf}{g:Rw Bool}(h:Ln f g l){j:Int}{p:Nat}(hp:p<f.cd.len):remB l g j p=remB f g j p:=by unfold remB;rw[h.lv hp]
theorem znj {m A A':Nat→Bool}{n:Nat}(h:∀p,p<n→A p=A' p):ehB m A n=ehB m A' n:=by
 unfold ehB;apply decide_eq_decide.2
 constructor
 ·intro k p hp hm;rw[←h p hp];exact k p hp hm
 ·intro k p hp hm;rw[h p hp];exact k p hp hm
theorem Ln.ehs {f l:Cf}{g:Rw Bool}(h:Ln f g l){j:Int}{m:Nat→Bool}:ehB m (styB l g j m) l.cd.len=ehB m (styB f g j m) f.cd.len:=by rw[h.cd];exact znj fun p hp=>h.sty hp
theorem Ln.ehr {f l:Cf}{g:Rw Bool}(h:Ln f g l){j:Int}{m:Nat→Bool}:ehB m (remB l g j) l.cd.len=ehB m (remB f g j) f.cd.len:=by rw[h.cd];exact znj fun p hp=>h.rem hp
theorem ziz (f:Cf)(g:Rw Bool)(x:Rn)(w:World)(hf:f.At w)(hg:BlAt w g)(hx:x.At w)(hA:Agd f)(hh:f.hd.len≤100000):Calls Tryz.prog 16 #[.agg f.vs.toArray,.slice g.ao g.len g.cap,.agg x.vs.toArray] w fun e w'=>e=.returned (.int .i64 (f.hold g x))∧Below w.heap.size w w':=by
 have hn:f.cd.len≤100000:=by have:=hA.few;omega
 have A0:=zbc [.cells f.vs.toArray 44,.cells #[.slice g.ao g.len g.cap] 34,.cells x.vs.toArray 53] w;have A1:=zbe [.cells f.vs.toArray 44,.cells #[.slice g.ao g.len g.cap] 34,.cells x.vs.toArray 53] w;simp only[List.foldl] at A0 A1;have H1:Hid (Hq w f g x _):=⟨A0,A1 0 (by simp),A1 1 (by simp),A1 2 (by simp)⟩;have hmf:∀(fn:Go.Fn) (first cap:Array Value) (w:World),(Instr.makeFunc fn first cap).run Tryz.prog w=.ok (.func fn first cap) w:=fun _ _ _ _=>rfl;have HD:=hyd (show ((f.At w∧BlAt w g)∧x.At w)∧Agd f from ⟨⟨⟨hf,hg⟩,hx⟩,hA⟩);have HB1:=hyd (fun h=>zuc (f:=f) (g:=g) (x:=x) h);have HB2:=hyd (fun p h ha hp h1=>zts (f:=f) (g:=g) (x:=x) (p:=p) h ha hp h1);have HB3:=hyd (fun p h ha hp h1 h2=>zt8 (f:=f) (g:=g) (x:=x) (p:=p) h ha hp h1 h2);have HB4:=hyd (fun p h ha hp h1 h2=>zvf (f:=f) (g:=g) (x:=x) (p:=p) h ha hp h1 h2);generalize f.hold g x=R at *;clear A0 A1 hf hg hx hA;generalize hw:((w.alloc (.cells f.vs.toArray 44)).alloc (.cells #[.slice g.ao g.len g.cap] 34)).alloc (.cells x.vs.toArray 53)=u1 at *;go_enter Tryz.func16,Tryz.ntmps16
 go_upto_region 1 with fail
 clear hw;have rF:=H1.out.bF.range;have h0:=zl6 f u1 (Cf.At.kept H1.out.bl HD.out.1.1.1) HD.out.2;go_wp2_with (refine wpList_load_mid rfl 44 (.tmp 3) rfl w.heap.size 0 (by kernel_rfl) f.vs _ rF Tryz.underlying44 rfl (by kernel_rfl) ?_)
 refine h0.mono ?_;rintro _ u2 ⟨rfl,hb⟩;have H2:=hyd (H1.out.kept hb);clear h0 hb H1 rF;go_upto_region 3 with fail
 go_cut [29] (fun c wx=>∃bb:Bool,c=.bool bb∧Hid (bb=badB f x∧Hq w f g x wx))
 case first =>
  have HBB:Hid (badB f x=(!f.pl x.at_||(decide (x.join≠-1)&&!f.pl x.join))):=rfl;generalize badB f x=bx at *;have rF:=H2.out.bF.range;have cX:=H2.out.bX.cell 0 rfl;have h0:=ze0 f x.at_ u2;generalize f.pl x.at_=pa at *;go_wp2_with (refine wpList_load_mid rfl 44 (.tmp 3) rfl w.heap.size 0 (by kernel_rfl) f.vs _ rF Tryz.underlying44 rfl (by kernel_rfl) ?_)
  refine h0.mono ?_;rintro _ u3 ⟨rfl,hb⟩;have H3:=hyd (H2.out.kept hb);clear h0 hb H2 rF cX;cases pa
  ·have HE:Hid (bx=true):=HBB.out;clear HBB;go_wp2;go_meet
   case rel=>exact⟨true,rfl,HE.out.symm,H3.out⟩
  ·have HB2:Hid (bx=(decide (x.join≠-1)&&!f.pl x.join)):=HBB.out;clear HBB;have cX:=H3.out.bX.cell 1 rfl;have rF:=H3.out.bF.range;have h0:=ze0 f x.join u3;generalize f.pl x.join=pj at *;generalize x.join=xj at *;by_cases ej:xj=-1
   ·have e1:(xj != -1)=false:=by simpa using ej
    have HE:Hid (bx=false):=by show _=_;rw[HB2.out,ej];rfl
    clear ej h0 HB2;go_wp2;go_meet
    case rel=>exact⟨false,rfl,HE.out.symm,H3.out⟩
   ·have e1:(xj != -1)=true:=by simpa using ej
    have HE:Hid (bx=!pj):=by show _=_;rw[HB2.out,decide_eq_true ej];rfl
    clear ej HB2;go_wp2_with (refine zco (by kernel_rfl) 44 (.tmp 3) rfl w.heap.size 0 (by kernel_rfl) f.vs _ rF Tryz.underlying44 rfl (by kernel_rfl) ?_)
    refine h0.mono ?_;rintro _ u4 ⟨rfl,hb⟩;have H4:=hyd (H3.out.kept hb);clear h0 hb H3 rF cX;cases pj
    ·have HE2:Hid (bx=true):=HE.out;clear HE;go_wp2;go_meet
     case rel=>exact⟨true,rfl,HE2.out.symm,H4.out⟩
    ·have HE2:Hid (bx=false):=HE.out;clear HE;go_wp2;go_meet
     case rel=>exact⟨false,rfl,HE2.out.symm,H4.out⟩
 case rest =>
 clear H2;obtain⟨bb,rfl,hc⟩:=hcut;have H2:=hyd hc.out.2;have HBE:=hyd hc.out.1;clear hc;cases bb
 case true =>
  have HE:Hid (R=-1):=HB1.out HBE.out.symm;go_wp2;go_ret;exact⟨zbo HE.out.symm,H2.out.bl⟩
 clear HB1;obtain⟨p,hpa,hp⟩:∃p:Nat,x.at_=p∧p<f.cd.len:=zno (by
  have:=HBE.out.symm;unfold badB at this;cases c:f.pl x.at_
  ·rw[c] at this;cases this
  ·rfl)
 have HBF:Hid (badB f x=false):=HBE.out.symm;clear HBE;have HPA:=hyd hpa;clear hpa;have rF:=H2.out.bF.range;have cG:=H2.out.bG.cell 0 rfl;have h0:=ztn f g wc (Cf.At.kept H2.out.bl HD.out.1.1.1) (BlAt.kept HD.out.1.1.2 H2.out.bl) hn hh;go_wp2_with (refine wpList_load_mid rfl 44 (.tmp 3) rfl w.heap.size 0 (by kernel_rfl) f.vs _ rF Tryz.underlying44 rfl (by kernel_rfl) ?_)
 refine h0.mono ?_;rintro _ u4 ⟨l0,rfl,hlO,hb⟩;have H4:=hyd (show Hq w f g x u4∧LnO f g wc.heap.size l0 u4 from ⟨H2.out.kept hb,hlO⟩);clear h0 hlO hb H2 rF cG;go_upto_region 6 with (refine zag rfl rfl 44 (.tmp 3) (.tmp 32) rfl w.heap.size l0.vs rfl rfl l0.vs_one H4.out.1.bF rfl (by kernel_rfl) ?_;intro w5 W5;have H50:Hid (Hq w l0 g x w5):=⟨zb4 H4.out.1.bl W5.gb (fun k e=>by have:=Option.some.inj e;omega),W5.blk,H4.out.1.bG.gb W5.gb (fun e=>by have:=Option.some.inj e;omega),H4.out.1.bX.gb W5.gb (fun e=>by have:=Option.some.inj e;omega)⟩;have HG5:=hyd (H4.out.2.gb W5.gb H4.out.1.bF (Cf.At.kept H50.out.bl HD.out.1.1.1));clear W5 H4)
 obtain⟨l,hlv,hlO⟩:=HG5.out;have H5:Hid (Hq w l g x w5):=⟨H50.out.bl,by rw[hlv];exact H50.out.bF,H50.out.bG,H50.out.bX⟩
 rw[←hlv];have HO:=hyd hlO;clear H50 HG5 hlv hlO;have rF:=H5.out.bF.range;have cX:=H5.out.bX.cell 2 rfl;have h0:=zqg l x.ps w5 (HD.out.1.2.ps.kept H5.out.bl) (by rw[HO.out.ln.cd];exact hn)
 have HLC:=hyd HO.out.ln.cd;go_wp2_with (refine wpList_load_mid rfl 44 (.tmp 3) rfl w.heap.size 0 (by kernel_rfl) l.vs _ rF Tryz.underlying44 rfl (by kernel_rfl) ?_)
 refine h0.mono ?_;rintro _ u6 ⟨BH,rfl,hBHn,hBH,hb⟩;have H6:=hyd (show (Hq w l g x u6∧l.At u6)∧Blk u6 BH (bvL (hldB x) l.cd.len) 4∧w.heap.size+2<BH from ⟨⟨H5.out.kept hb,Cf.At.kept hb HO.out.lat⟩,hBH,by have:=H5.out.bX.lt;omega⟩)
 have HLN:=hyd HO.out.ln;clear h0 hBHn hBH hb H5 HO rF cX;go_upto_region 7 with (refine zbd rfl 34 (.tmp 7) (.tmp 36) rfl rfl u6.heap.size 0 (.slice (some ⟨BH,0,none⟩) l.cd.len l.cd.len) _ _ (by kernel_rfl) (by kernel_rfl) (zax _ _ (by kernel_rfl) rfl rfl _ _) (Blk.new u6 [.slice none 0 0] 34) (by simp) ?_;intro w7 W7)
 have B6:=zac u6 (.cells #[.slice none 0 0] 34);have hs6:=H6.out.1.1.bX.lt;have hs7:=H6.out.2.1.lt;have bF6:=((H6.out.1.1.bF.kept B6).gb W7.gb (fun e=>by have:=Option.some.inj e;omega))
 have bG6:=((H6.out.1.1.bG.kept B6).gb W7.gb (fun e=>by have:=Option.some.inj e;omega))
 have bX6:=((H6.out.1.1.bX.kept B6).gb W7.gb (fun e=>by have:=Option.some.inj e;omega))
 have bH6:=((H6.out.2.1.kept B6).gb W7.gb (fun e=>by have:=Option.some.inj e;omega))
 have bl7:Below w.heap.size w w7:=zb4 (Below.next H6.out.1.1.bl B6) W7.gb (fun k e=>by have:=Option.some.inj e;omega)
 have H70:=hyd (show (Blk w7 w.heap.size l.vs 44∧Blk w7 (w.heap.size+1) [.slice g.ao g.len g.cap] 34)∧(Blk w7 (w.heap.size+2) x.vs 53∧Blk w7 u6.heap.size [.slice (some ⟨BH,0,none⟩) l.cd.len l.cd.len] 34)∧Blk w7 BH (bvL (hldB x) l.cd.len) 4∧Below w.heap.size w w7∧Below u6.heap.size u6 w7 from ⟨⟨bF6,bG6⟩,⟨bX6,W7.blk⟩,bH6,bl7,zb4 B6 W7.gb (fun k e=>by have:=Option.some.inj e;omega)⟩)
 have H7:Hid (Hz w.heap.size (w.heap.size+1) (w.heap.size+2) u6.heap.size BH l g x (hldB x) w7∧Below w.heap.size w w7):=⟨⟨H70.out.1.1,H70.out.1.2,H70.out.2.1.1,H70.out.2.1.2,H70.out.2.2.1,Cf.At.kept H70.out.2.2.2.2 H6.out.1.2,BlAt.kept HD.out.1.1.2 bl7⟩,bl7⟩;clear B6 hs6 hs7 bF6 bG6 bX6 bH6 bl7 H70 W7 H6;generalize u6.heap.size=B7 at *;have hpl:p<l.cd.len:=by rw[HLC.out];exact hp
 have hnl:l.cd.len≤100000:=by rw[HLC.out];exact hn
 have HC1:Hid (styB l g x.join (hldB x) p=false→R=1):=fun h=>HB2.out p HBF.out HPA.out hp (by rw[←HLN.out.sty hp];exact h)
 have HC2:Hid (styB l g x.join (hldB x) p=true→ehB (hldB x) (styB l g x.join (hldB x)) l.cd.len=false→R=2):=fun h h2=>HB3.out p HBF.out HPA.out hp (by rw[←HLN.out.sty hp];exact h) (by rw[←HLN.out.ehs];exact h2)
 have HC3:Hid (styB l g x.join (hldB x) p=true→ehB (hldB x) (styB l g x.join (hldB x)) l.cd.len=true→(remB l g x.join p=true→ehB (hldB x) (remB l g x.join) l.cd.len=true→R=0)∧(remB l g x.join p=false∨ehB (hldB x) (remB l g x.join) l.cd.len=false→R=3)):=fun h h2=>by
  have:=HB4.out p HBF.out HPA.out hp (by rw[←HLN.out.sty hp];exact h) (by rw[←HLN.out.ehs];exact h2)
  rw[←HLN.out.rem hp,←HLN.out.ehr (j:=x.join) (m:=hldB x)] at this;exact this
 clear HB2 HB3 HB4 HBF;have h1:=zlz w.heap.size (w.heap.size+1) (w.heap.size+2) B7 BH l g x (hldB x) p w7 H7.out.1 hpl hnl;have HH2:Hid (∀u,Hz w.heap.size (w.heap.size+1) (w.heap.size+2) B7 BH l g x (hldB x) u→Calls Tryz.prog 45 #[.slice (some ⟨BH,0,none⟩) l.cd.len l.cd.len,.func (.func 41) #[] #[.pointer (some ⟨w.heap.size,0,none⟩),.pointer (some ⟨w.heap.size+1,0,none⟩),.pointer (some ⟨B7,0,none⟩),.pointer (some ⟨w.heap.size+2,0,none⟩)]] u fun e u'=>e=.returned (.bool (ehB (hldB x) (styB l g x.join (hldB x)) l.cd.len))∧Below u.heap.size u u'):=fun u hu=>zmh w.heap.size (w.heap.size+1) (w.heap.size+2) B7 BH l g x (hldB x) u hu hnl;have HH3:Hid (∀u,Hz w.heap.size (w.heap.size+1) (w.heap.size+2) B7 BH l g x (hldB x) u→Calls Tryz.prog 43 #[.int .i64 p,.pointer (some ⟨w.heap.size+2,0,none⟩),.pointer (some ⟨w.heap.size,0,none⟩),.pointer (some ⟨w.heap.size+1,0,none⟩)] u fun e u'=>e=.returned (.bool (remB l g x.join p))∧Below u.heap.size u u'):=fun u hu=>zi0 w.heap.size (w.heap.size+1) (w.heap.size+2) B7 BH l g x (hldB x) p u hu hpl;have HH4:Hid (∀u,Hz w.heap.size (w.heap.size+1) (w.heap.size+2) B7 BH l g x (hldB x) u→Calls Tryz.prog 45 #[.slice (some ⟨BH,0,none⟩) l.cd.len l.cd.len,.func (.func 43) #[] #[.pointer (some ⟨w.heap.size+2,0,none⟩),.pointer (some ⟨w.heap.size,0,none⟩),.pointer (some ⟨w.heap.size+1,0,none⟩)]] u fun e u'=>e=.returned (.bool (ehB (hldB x) (remB l g x.join) l.cd.len))∧Below u.heap.size u u'):=fun u hu=>zmd w.heap.size (w.heap.size+1) (w.heap.size+2) B7 BH l g x (hldB x) u hu hnl;generalize ehB (hldB x) (styB l g x.join (hldB x)) l.cd.len=s2 at *;generalize styB l g x.join (hldB x) p=s1 at *;generalize ehB (hldB x) (remB l g x.join) l.cd.len=s4 at *;generalize remB l g x.join p=s3 at *;go_upto_region 9 with fail
 have cX:=H7.out.1.bX.cell 0 rfl;rw[HPA.out] at cX;go_wp2_with fail
 refine h1.mono ?_;rintro _ u8 ⟨rfl,hb⟩;have H8:=hyd (show Hz w.heap.size (w.heap.size+1) (w.heap.size+2) B7 BH l g x (hldB x) u8∧Below w.heap.size w u8 from ⟨H7.out.1.kept hb,Below.next H7.out.2 hb⟩);clear h1 hb H7 cX;cases s1
 ·have HE:Hid (R=1):=HC1.out rfl;go_wp2;go_ret;exact⟨zbo HE.out.symm,H8.out.2⟩
 clear HC1;have c7:=H8.out.1.b7.cell 0 rfl;have h1:=HH2.out u8 H8.out.1;go_wp2_with fail
 refine h1.mono ?_;rintro _ u9 ⟨rfl,hb⟩;have H9:=hyd (show Hz w.heap.size (w.heap.size+1) (w.heap.size+2) B7 BH l g x (hldB x) u9∧Below w.heap.size w u9 from ⟨H8.out.1.kept hb,Below.next H8.out.2 hb⟩);clear h1 hb H8 c7 HH2;cases s2
 ·have HE:Hid (R=2):=HC2.out (by simp) rfl;go_wp2;go_ret;exact⟨zbo HE.out.symm,H9.out.2⟩
 clear HC2;have HC4:=hyd (HC3.out (by simp) (by simp));clear HC3;have cX:=H9.out.1.bX.cell 0 rfl;rw[HPA.out] at cX;have h1:=HH3.out u9 H9.out.1;go_wp2_with fail
 refine h1.mono ?_;rintro _ w10 ⟨rfl,hb⟩;have H10:=hyd (show Hz w.heap.size (w.heap.size+1) (w.heap.size+2) B7 BH l g x (hldB x) w10∧Below w.heap.size w w10 from ⟨H9.out.1.kept hb,Below.next H9.out.2 hb⟩);clear h1 hb H9 cX HH3;cases s3
 ·have HE:Hid (R=3):=HC4.out.2 (Or.inl rfl);go_wp2;go_ret;exact⟨zbo HE.out.symm,H10.out.2⟩
 have c7:=H10.out.1.b7.cell 0 rfl;have h1:=HH4.out w10 H10.out.1;go_wp2_with fail
 refine h1.mono ?_;rintro _ w11 ⟨rfl,hb⟩;have H11:=hyd (Below.next H10.out.2 hb);clear h1 hb H10 c7 HH4;cases s4
 ·have HE:Hid (R=3):=HC4.out.2 (Or.inr rfl);go_wp2;go_ret;exact⟨zbo HE.out.symm,H11.out⟩
 ·have HE:Hid (R=0):=HC4.out.1 (by simp) rfl;go_wp2;go_ret;exact⟨zbo HE.out.symm,H11.out⟩
theorem zgy {P:Program}{md:Region.Mode}{ops:Array Oper}{C S:World→Prop}{Q:Exit→Act→World→Prop}{Q':Act→Prop}(hCS:∀w,C w→S w)(hQ:∀a w,C w→Q' a→Q .normal a w):∀(fuel:Nat) (listed:Array Bool) (a:Act) (w:World),C w→wpAnyQ P md ops C Q' fuel listed a→wpAnyH P md ops Q S fuel listed a w
 | 0,_,_,_,hw,h=>⟨h.1,hQ _ _ hw h.2⟩
 | fuel+1,_,_,_,hw,h=>⟨fun h0=>hQ _ _ hw (h.1 h0),fun i hi=>wpOp_of_qOp hw (fun a' w' hw' h'=>⟨hCS _ hw',zgy hCS hQ fuel _ a' w' hw' h'⟩) (h.2 i hi)⟩
theorem zpu {P:Program}{L:List Oper}{S:World→Prop}{Q:Exit→Act→World→Prop}{fuel:Nat}{listed:Array Bool}{a:Act}{w:World}(k:Nat)(hf:(L.drop k).length=fuel)(hB:(Region.noSelect L.toArray&&Region.lexFrom .any L.toArray (L.drop k).length k listed)=true)(hS:∀u,Below w.heap.size w u→S u)
  (h:wpQuiet P L.toArray (fun u=>∃x:Gr w,u=x.w) (fun a'=>∀u,(∃x:Gr w,u=x.w)→Q .normal a' u) (L.drop k) a):wpAnyH P .any L.toArray Q S fuel listed a w:=by
 rw[Bool.and_eq_true] at hB;subst hf;refine zgy (C:=fun u=>∃x:Gr w,u=x.w) (Q':=fun a'=>∀u,(∃x:Gr w,u=x.w)→Q .normal a' u) (fun u hu=>by obtain⟨x,rfl⟩:=hu;exact hS _ x.bl) (fun a' u hu h'=>h' u hu) _ _ _ _ ⟨⟨_,Below.refl _ _⟩,rfl⟩ ?_
 exact wpAnyQ_lex hB.1 (L.drop k) k listed a (fun j=>by simp) hB.2 h
end
end Go.Proofs.YtfobijdkoeifjaaGreatDoor
