import Derived.Test.YtfobijdkoeifjaaGreatDoorP22
import Derived.Test.YtfobijdkoeifjaaGreatDoorP18
import Derived.BigQuiet
import Derived.Test.YtfobijdkoeifjaaGreatDoorP23
import Derived.Test.YtfobijdkoeifjaaGreatDoorP15
import Derived.Test.YtfobijdkoeifjaaGreatDoorP14
import Derived.Test.YtfobijdkoeifjaaGreatDoorP20
set_option maxRecDepth 100000
set_option maxHeartbeats 32000000
namespace Go.Proofs.YtfobijdkoeifjaaGreatDoor
section
open Go Go.RowKit
def fnL (f:Nat→Cf):Nat→List Ty→List Ty
 | 0,R=>R
 | k+1,R=>(f k).take (fnL f k R)
structure GatR (c:Kl)(w:World)(e:Ending)(w':World):Prop where
 yes:c.fm=true→∃p S,e=.returned (.tuple #[.pointer (some ⟨p,0,none⟩),.bool true])∧Pl w c.n c.g p S (fnL c.fs.x c.fs.len []) w'∧(fnL c.fs.x c.fs.len []).length≤2000000000
 no:c.fm=false→e=.returned (.tuple #[.pointer none,.bool false])
 bl:Below w.heap.size w w'
theorem zsj {w0:World}{n:Strs}{g:Grid}{p:Nat}(hF:zae n g=true)(hn:n.At w0)(hg:g.At w0)(hO:Og w0)(r:Rw Cf)(S:Nat→Prop)(w:World)(hr:CfsAt w0 r)(hP:Pl w0 n g p S [] w)(h60:r.len≤60) :
  Calls Tryz.prog 117 #[.slice r.ao r.len r.cap,.func (.func 118) #[.pointer (some ⟨p,0,none⟩)] #[]] w fun e w'=>BR w0 n g p S w [] (20720720*r.len) (decide (∀i,i<r.len→(r.x i).fm n.len=true)) (fnL r.x r.len []) e w':=by
 have hA:=all_fn (.pointer (some ⟨p,0,none⟩)) (fun i u=>(∃S',Pg w0 n g p S w S' (fnL r.x i []) u)∧(fnL r.x i []).length≤20720720*i) (fun u=>Below w0.heap.size w0 u) (fun i=>(r.x i).fm n.len) r.ao r.b r.o r.len r.cap (fun i=>(r.x i).vs) w hr.nil hr.bound (fun _ _=>rfl) (fun i _=>Cf.vs_one _)
  (fun i u hi h=>by
   obtain⟨⟨S',h1⟩,_⟩:=h;exact zaf (hr.row i hi) h1.pl.bl)
  (fun i u u' _ h hb=>by
   obtain⟨⟨S',h1⟩,h2⟩:=h;exact⟨⟨S',h1.kept hb⟩,h2⟩)
  (fun i u hi h=>by
   obtain⟨⟨S',h1⟩,h2⟩:=h;refine (zhs hF hn hg hO (r.x i) (hr.each i hi) S' (fnL r.x i []) u h1.pl (by omega)).mono ?_;intro e u' h3;refine⟨h3.ret,fun h5=>?_,fun _=>h3.bl⟩;obtain⟨⟨S2,h4⟩,h6⟩:=h3.yes h5;refine⟨⟨S2,h1.trans h4⟩,?_⟩;show ((r.x i).take (fnL r.x i [])).length≤_
   omega)
  ⟨⟨S,Pg.of hP (Below.refl _ _)⟩,Nat.le_refl _⟩
 refine hA.mono fun e w' h=>⟨h.ret,fun h1=>?_,?_⟩
 ·obtain⟨h2,h3⟩:=h.yes (of_decide_eq_true h1);exact⟨h2,by simpa using h3⟩
 ·by_cases h1:∀i,i<r.len→(r.x i).fm n.len=true
  ·obtain⟨⟨S',h2⟩,_⟩:=h.yes h1;exact h2.pl.bl
  ·apply h.no
   apply Classical.byContradiction
   intro h2;apply h1
   intro i hi;cases h3:(r.x i).fm n.len
   ·exact absurd ⟨i,hi,h3⟩ h2
   ·rfl
theorem zpq (c:Kl)(w:World)(hc:c.At w)(hO:Og w):Calls Tryz.prog 76 #[.agg #[.slice c.n.ao c.n.len c.n.cap,.slice c.g.ao c.g.len c.g.cap,.slice c.fs.ao c.fs.len c.fs.cap]] w fun e w'=>GatR c w e w':=by
 have B0:=zac w (.cells #[.slice c.n.ao c.n.len c.n.cap,.slice c.g.ao c.g.len c.g.cap,.slice c.fs.ao c.fs.len c.fs.cap] 28);have b:=Blk.new w [.slice c.n.ao c.n.len c.n.cap,.slice c.g.ao c.g.len c.g.cap,.slice c.fs.ao c.fs.len c.fs.cap] 28;have c0:=b.cell 0 rfl;have c1:=b.cell 1 rfl;have c2:=b.cell 2 rfl;have HD:=hyd (show c.At w∧Og w from ⟨hc,hO⟩);have HB:=hyd B0;have HF:Hid (c.fm=(zae c.n c.g&&((decide (1≤c.fs.len)&&decide (c.fs.len≤60))&&decide (∀i,i<c.fs.len→(c.fs.x i).fm c.n.len=true)))):=rfl;have h0:=zdc c.n c.g _ (hc.n.kept B0) (hc.g.kept B0);have hmf:∀(fn:Go.Fn) (first cap:Array Value) (w:World),(Instr.makeFunc fn first cap).run Tryz.prog w=.ok (.func fn first cap) w:=fun _ _ _ _=>rfl;have hmm:=@run_makeMap Tryz.prog;have HG:Hid (∀e w',e=.returned (.tuple #[.pointer none,.bool false])→c.fm=false→Below w.heap.size w w'→GatR c w e w'):=fun e w' h1 h2 h3=>⟨fun h=>(by rw[h2] at h;cases h),fun _=>h1,h3⟩
 have HF0:Hid (zae c.n c.g=true→zae c.n c.g=true):=fun h=>h;clear hc hO B0 b;generalize hfb:zae c.n c.g=b0 at h0 HF;have HFB:=hyd hfb;clear hfb;go_enter Tryz.func76,Tryz.ntmps76
 go_wp2_with fail
 refine h0.mono ?_;rintro _ w1 ⟨rfl,hb1⟩;have HB1:=hyd (Below.next HB.out hb1);have d0:=up hb1 c0;have d1:=up hb1 c1;have d2:=up hb1 c2;clear h0 c0 c1 c2 hb1 HB;cases b0
 ·have HE:Hid (c.fm=false):=by show _=_;rw[HF.out];rfl
  go_wp2
  go_ret2
  exact HG.out _ _ rfl HE.out HB1.out
 by_cases hl0:c.fs.len=0
 ·have e0:((c.fs.len:Int)==0)=true:=by simpa using hl0
  have HE:Hid (c.fm=false):=by show _=_;rw[HF.out,decide_eq_false (show ¬1≤c.fs.len by omega)];rfl
  clear hl0;go_wp2
  go_ret2
  exact HG.out _ _ rfl HE.out HB1.out
 have e0:((c.fs.len:Int)==0)=false:=by simpa using hl0
 by_cases hl1:60<c.fs.len
 ·have e1:(60:Int)<c.fs.len:=by omega
  have HE:Hid (c.fm=false):=by show _=_;rw[HF.out,decide_eq_false (show ¬c.fs.len≤60 by omega)];simp
  clear hl0;go_wp2
  go_ret2
  exact HG.out _ _ rfl HE.out HB1.out
 have e1:¬(60:Int)<c.fs.len:=by omega
 have HLN:=hyd (show c.fs.len≤60 by omega);have HF2:Hid (c.fm=decide (∀i,i<c.fs.len→(c.fs.x i).fm c.n.len=true)):=by
  show _=_
  rw[HF.out,decide_eq_true (show 1≤c.fs.len by omega),decide_eq_true (show c.fs.len≤60 by omega)];rfl
 clear hl0 hl1;go_upto_region 4 with fail
 have B2:=Below.next (zac w1 (.map #[] 0)) (zac (w1.alloc (.map #[] 0)) (.cells #[.slice c.n.ao c.n.len c.n.cap,.slice c.g.ao c.g.len c.g.cap,.slice none 0 0,.map (some w1.heap.size)] 155));have f2:=up B2 d2;have HPl:=hyd (show Pl w c.n c.g (w1.heap.size+1) (PS (w1.heap.size+1) w1.heap.size (.slice none 0 0)) [] ((w1.alloc (.map #[] 0)).alloc (.cells #[.slice c.n.ao c.n.len c.n.cap,.slice c.g.ao c.g.len c.g.cap,.slice none 0 0,.map (some w1.heap.size)] 155)) from by
  have hb:=Blk.new (w1.alloc (.map #[] 0)) [.slice c.n.ao c.n.len c.n.cap,.slice c.g.ao c.g.len c.g.cap,.slice none 0 0,.map (some w1.heap.size)] 155;rw[alloc_size] at hb;refine⟨w1.heap.size,.slice none 0 0,#[],0,[],⟨Below.next HB1.out B2,hb,?_,NKeys.nil,Good.nil _,World.ownsRow_nil _ _ _ _,by simp,?_,HB1.out.size⟩,rfl⟩
  ·rw[(zac (w1.alloc (.map #[] 0)) _).block _ (by rw[alloc_size];omega)]
   exact heap_alloc_new w1 (.map #[] 0)
  ·have:=HB1.out.size;omega)
 have h2:=zsj HFB.out HD.out.1.n HD.out.1.g HD.out.2 c.fs _ _ HD.out.1.fs HPl.out HLN.out;clear d0 d1 d2 B2;generalize (w1.alloc (.map #[] 0)).alloc (.cells #[.slice c.n.ao c.n.len c.n.cap,.slice c.g.ao c.g.len c.g.cap,.slice none 0 0,.map (some w1.heap.size)] 155)=u2 at *;generalize w1.heap.size+1=p at *;rw[←HF2.out] at h2;have HGY:Hid (∀S' w',c.fm=true→Pl w c.n c.g p S' (fnL c.fs.x c.fs.len []) w'→(fnL c.fs.x c.fs.len []).length≤2000000000→GatR c w (.returned (.tuple #[.pointer (some ⟨p,0,none⟩),.bool true])) w'):=fun S' w' h1 h2 h3=>⟨fun _=>⟨p,S',rfl,h2,h3⟩,fun h=>(by rw[h1] at h;cases h),h2.bl⟩
 generalize hcf:c.fm=F at *;go_wp2_with fail
 refine Calls.mono h2 ?_;intro e u3 h6;obtain rfl:=h6.ret;have H6:=hyd h6;clear h2 h6 f2;cases F
 ·go_wp2
  go_ret2
  exact HG.out _ _ rfl (by simp) H6.out.bl
 ·obtain⟨⟨S',h7⟩,h8⟩:=H6.out.yes (by simp);have HL8:Hid ((fnL c.fs.x c.fs.len []).length≤2000000000):=by have h9:=HLN.out;simp at h8;show _≤_;omega
  clear h8;have H7:=hyd h7.pl;clear h7;go_wp2
  go_ret2
  exact HGY.out S' _ (by simp) H7.out HL8.out
theorem zog (c:Kl)(w:World)(hc:c.At w)(hO:Og w):Calls Tryz.prog 35 #[.agg #[.slice c.n.ao c.n.len c.n.cap,.slice c.g.ao c.g.len c.g.cap,.slice c.fs.ao c.fs.len c.fs.cap]] w fun e w'=>e=.returned (.bool c.fm)∧Below w.heap.size w w':=by
 have B0:=zac w (.cells #[.slice c.n.ao c.n.len c.n.cap,.slice c.g.ao c.g.len c.g.cap,.slice c.fs.ao c.fs.len c.fs.cap] 28);have b:=Blk.new w [.slice c.n.ao c.n.len c.n.cap,.slice c.g.ao c.g.len c.g.cap,.slice c.fs.ao c.fs.len c.fs.cap] 28;have c0:=b.cell 0 rfl;have c1:=b.cell 1 rfl;have c2:=b.cell 2 rfl;have h:=zpq c _ (Kl.At.kept B0 hc) (hO.kept B0);have HB:=hyd B0;clear b B0;go_enter Tryz.func35,Tryz.ntmps35
 go_wp2_with fail
 refine Calls.mono h ?_;intro e w1 h1;have HB1:=hyd (Below.next HB.out h1.bl);have H1:=hyd h1;clear h c0 c1 c2;cases hf:c.fm
 ·obtain rfl:=h1.no hf;have HF:=hyd hf;clear h1 H1 hf;go_wp2;go_ret;exact⟨zab HF.out.symm,HB1.out⟩
 ·obtain⟨p,S,rfl,_⟩:=h1.yes hf;have HF:=hyd hf;clear h1 H1 hf;go_wp2;go_ret;exact⟨zab HF.out.symm,HB1.out⟩
def Kl.cs (c:Kl):List Value:=[.slice c.n.ao c.n.len c.n.cap,.slice c.g.ao c.g.len c.g.cap,.slice c.fs.ao c.fs.len c.fs.cap]
structure Sb (w:World)(c:Kl)(f:Cf)(BC BF:Nat)(u:World):Prop where
 bl:Below w.heap.size w u
 bC:Blk u BC c.cs 28
 bF:Blk u BF f.vs 44
 f:f.At u
theorem Sb.kept {w:World}{c:Kl}{f:Cf}{BC BF:Nat}{u u':World}(h:Sb w c f BC BF u)(hb:Below u.heap.size u u'):Sb w c f BC BF u':=⟨Below.next h.bl hb,h.bC.kept hb,h.bF.kept hb,Cf.At.kept hb h.f⟩
theorem Sb.new (w:World)(c:Kl)(f:Cf)(hf:f.At w):Sb w c f w.heap.size (w.heap.size+1) ((w.alloc (.cells #[.slice c.n.ao c.n.len c.n.cap,.slice c.g.ao c.g.len c.g.cap,.slice c.fs.ao c.fs.len c.fs.cap] 28)).alloc (.cells f.vs.toArray 44)):=by
 have B0:=zac w (.cells #[.slice c.n.ao c.n.len c.n.cap,.slice c.g.ao c.g.len c.g.cap,.slice c.fs.ao c.fs.len c.fs.cap] 28);have b0:=Blk.new w c.cs 28;have B1:=zac (w.alloc (.cells #[.slice c.n.ao c.n.len c.n.cap,.slice c.g.ao c.g.len c.g.cap,.slice c.fs.ao c.fs.len c.fs.cap] 28)) (.cells f.vs.toArray 44);have b1:=Blk.new (w.alloc (.cells #[.slice c.n.ao c.n.len c.n.cap,.slice c.g.ao c.g.len c.g.cap,.slice c.fs.ao c.fs.len c.fs.cap] 28)) f.vs 44;rw[alloc_size] at b1;exact⟨Below.next B0 B1,b0.kept B1,b1,Cf.At.kept (Below.next B0 B1) hf⟩
theorem zp0 (c:Kl)(f:Cf)(w:World)(hf:f.At w)(hpos:0<f.cd.len):Calls Tryz.prog 78 #[.agg #[.slice c.n.ao c.n.len c.n.cap,.slice c.g.ao c.g.len c.g.cap,.slice c.fs.ao c.fs.len c.fs.cap],.agg f.vs.toArray] w fun e w'=>e=.returned (.bool (f.codB c.fs.len c.n.len))∧Below w.heap.size w w':=by
 have H1:=hyd (Sb.new w c f hf);have HA:Hid (f.codB c.fs.len c.n.len=(decide (∀i,i<f.cd.len→(f.cd.x i).nhB c.fs.len c.n.len f.sl f.cd.len i=true)&&zj8 (f.cd.x (f.cd.len - 1)).op)):=rfl;have hbd:=hf.cd.bound;have HNIL:=hyd (hf.cd.nil hpos);have HP:=hyd hpos;generalize f.codB c.fs.len c.n.len=F at *;clear hf hpos;have hs:=alloc_size w (.cells #[.slice c.n.ao c.n.len c.n.cap,.slice c.g.ao c.g.len c.g.cap,.slice c.fs.ao c.fs.len c.fs.cap] 28);generalize hw0:w.alloc (.cells #[.slice c.n.ao c.n.len c.n.cap,.slice c.g.ao c.g.len c.g.cap,.slice c.fs.ao c.fs.len c.fs.cap] 28)=u0 at *;generalize hw1:u0.alloc (.cells f.vs.toArray 44)=u1 at *;have c14:=H1.out.bF.cell 14 rfl;rw[HNIL.out] at c14;go_enter Tryz.func78,Tryz.ntmps78
 go_wp2;clear hw0 hw1 hs;go_loopw [10] (fun i wr=>∃(j:Nat),j≤f.cd.len∧i=.int .i64 j∧Sb w c f w.heap.size (w.heap.size+1) wr∧(∀i,i<j→(f.cd.x i).nhB c.fs.len c.n.len f.sl f.cd.len i=true)) (fun i _=>f.cd.len - (intOf i).toNat)
 case atStart=>exact⟨0,Nat.zero_le _,rfl,H1.out,fun i hi=>absurd hi (Nat.not_lt_zero _)⟩
 case round =>
  clear H1 c14;obtain⟨j,hj,rfl,hBl,hall⟩:=hrel;have HB:=hyd hBl;have HL:=hyd hall;clear hBl hall;by_cases hlt:j<f.cd.len
  ·have ij:(j:Int)<f.cd.len:=by omega
   have d0:=HB.out.bC.cell 0 rfl;have d1:=HB.out.bC.cell 1 rfl;have d2:=HB.out.bC.cell 2 rfl;have rF:=HB.out.bF.range;have HY:=hyd (zbx (P:=fun i=>(f.cd.x i).nhB c.fs.len c.n.len f.sl f.cd.len i=true) HL.out);have HNo:Hid ((f.cd.x j).nhB c.fs.len c.n.len f.sl f.cd.len j=false→F=false):=fun h=>by
    rw[HA.out,decide_eq_false (fun hh=>by have:=hh j hlt;rw[h] at this;cases this)];rfl
   have hc:=znv c f j wr HB.out.f hlt;generalize (f.cd.x j).nhB c.fs.len c.n.len f.sl f.cd.len j=bb at *;generalize hBF:w.heap.size+1=BF at *;go_wp2_with (refine wpList_load_mid rfl 44 (.tmp 3) rfl BF 0 (by kernel_rfl) f.vs _ rF Tryz.underlying44 rfl (by kernel_rfl) ?_)
   refine hc.mono ?_;rintro _ u2 ⟨rfl,hb⟩;have HB2:=hyd (HB.out.kept hb);clear hc hb d0 d1 d2 rF HB;cases bb
   ·have HE:=hyd (HNo.out (by simp));go_wp2;go_ret;exact⟨zab HE.out.symm,HB2.out.bl⟩
   ·have HE:=hyd (HY.out (by simp));subst hBF;go_wp2;go_roundw
    case rel=>exact⟨j+1,by omega,by go_num,HB2.out,HE.out⟩
    case measure=>simp[intOf];omega
  ·have e2:¬(j:Int)<f.cd.len:=by omega
   have HE:Hid (F=zj8 (f.cd.x (f.cd.len - 1)).op):=by show _=_;rw[HA.out,decide_eq_true (fun i hi=>HL.out i (by omega))];rfl
   have c14:=HB.out.bF.cell 14 rfl;rw[HNIL.out] at c14;have hp0:(0:Int)<f.cd.len:=by have:=HP.out;omega
   have r0:=HB.out.f.cd.row (f.cd.len - 1) (by omega) 0 _ rfl;simp only[Nat.add_zero] at r0;have HE2:Hid (F=(decide ((f.cd.x (f.cd.len - 1)).op=27)||decide ((f.cd.x (f.cd.len - 1)).op=26))):=by show _=_;rw[HE.out];rfl
   clear HE HP;generalize (f.cd.x (f.cd.len - 1)).op=op at *;by_cases o1:op=27
   ·subst o1;have HE3:Hid (F=true):=by show _=_;rw[HE2.out];rfl
    go_wp2;go_ret;exact⟨zab HE3.out.symm,HB.out.bl⟩
   have n1:(op==27)=false:=by simpa using o1
   by_cases o2:op=26
   ·subst o2;have HE3:Hid (F=true):=by show _=_;rw[HE2.out];rfl
    clear n1;go_wp2;go_ret;exact⟨zab HE3.out.symm,HB.out.bl⟩
   have n2:(op==26)=false:=by simpa using o2
   have HE3:Hid (F=false):=by show _=_;rw[HE2.out,decide_eq_false o1,decide_eq_false o2];rfl
   clear o1 o2;go_wp2;go_ret;exact⟨zab HE3.out.symm,HB.out.bl⟩
theorem zpj (c:Kl)(f:Cf)(w:World)(hf:f.At w):Calls Tryz.prog 36 #[.agg #[.slice c.n.ao c.n.len c.n.cap,.slice c.g.ao c.g.len c.g.cap,.slice c.fs.ao c.fs.len c.fs.cap],.agg f.vs.toArray] w fun e w'=>e=.returned (.int .i64 (f.brk c.fs.len c.n.len:Nat))∧Below w.heap.size w w':=by
 have H1:=hyd (Sb.new w c f hf);have HX:Hid (f.brk c.fs.len c.n.len=if f.cntB=false then 1 else if f.codB c.fs.len c.n.len=false then 2 else if f.hanB=false then 3 else if f.regB=false then 4 else 0):=rfl;have HP:Hid (f.cntB=true→0<f.cd.len):=fun h=>by
  unfold Cf.cntB at h;simp only[Bool.and_eq_true,decide_eq_true_eq] at h;exact h.1.1
 generalize f.brk c.fs.len c.n.len=F at *;clear hf;have hs:=alloc_size w (.cells #[.slice c.n.ao c.n.len c.n.cap,.slice c.g.ao c.g.len c.g.cap,.slice c.fs.ao c.fs.len c.fs.cap] 28);generalize hw0:w.alloc (.cells #[.slice c.n.ao c.n.len c.n.cap,.slice c.g.ao c.g.len c.g.cap,.slice c.fs.ao c.fs.len c.fs.cap] 28)=u0 at *;generalize hw1:u0.alloc (.cells f.vs.toArray 44)=u1 at *;have rF:=H1.out.bF.range;have hc:=zpw f u1;generalize f.cntB=b1 at *;generalize hBF:w.heap.size+1=BF at *;go_enter Tryz.func36,Tryz.ntmps36
 go_wp2_with (refine wpList_load_mid rfl 44 (.tmp 3) rfl BF 0 (by kernel_rfl) f.vs _ rF Tryz.underlying44 rfl (by kernel_rfl) ?_)
 refine hc.mono ?_;rintro _ u2 ⟨rfl,hb⟩;have H2:=hyd (H1.out.kept hb);clear hc hb rF H1 hw0 hw1 hs;cases b1
 ·have HE:Hid (F=1):=by show _=_;rw[HX.out];rfl
  go_wp2;go_ret;exact⟨zau (by rw[HE.out];rfl),H2.out.bl⟩
 have rF:=H2.out.bF.range;have d0:=H2.out.bC.cell 0 rfl;have d1:=H2.out.bC.cell 1 rfl;have d2:=H2.out.bC.cell 2 rfl;have hc:=zp0 c f u2 H2.out.f (HP.out (by simp));generalize f.codB c.fs.len c.n.len=b2 at *;go_wp2_with (refine wpList_load_mid rfl 44 (.tmp 3) rfl BF 0 (by kernel_rfl) f.vs _ rF Tryz.underlying44 rfl (by kernel_rfl) ?_)
 refine hc.mono ?_;rintro _ u3 ⟨rfl,hb⟩;have H3:=hyd (H2.out.kept hb);clear hc hb rF H2 d0 d1 d2;cases b2
 ·have HE:Hid (F=2):=by show _=_;rw[HX.out];rfl
  go_wp2;go_ret;exact⟨zau (by rw[HE.out];rfl),H3.out.bl⟩
 have rF:=H3.out.bF.range;have hc:=zkr f u3 H3.out.f;generalize f.hanB=b3 at *;go_wp2_with (refine wpList_load_mid rfl 44 (.tmp 3) rfl BF 0 (by kernel_rfl) f.vs _ rF Tryz.underlying44 rfl (by kernel_rfl) ?_)
 refine hc.mono ?_;rintro _ u4 ⟨rfl,hb⟩;have H4:=hyd (H3.out.kept hb);clear hc hb rF H3;cases b3
 ·have HE:Hid (F=3):=by show _=_;rw[HX.out];rfl
  go_wp2;go_ret;exact⟨zau (by rw[HE.out];rfl),H4.out.bl⟩
 have rF:=H4.out.bF.range;have hc:=zlv f u4 H4.out.f;generalize f.regB=b4 at *;go_wp2_with (refine wpList_load_mid rfl 44 (.tmp 3) rfl BF 0 (by kernel_rfl) f.vs _ rF Tryz.underlying44 rfl (by kernel_rfl) ?_)
 refine hc.mono ?_;rintro _ u5 ⟨rfl,hb⟩;have H5:=hyd (H4.out.kept hb);clear hc hb rF H4;cases b4
 ·have HE:Hid (F=4):=by show _=_;rw[HX.out];rfl
  go_wp2;go_ret;exact⟨zau (by rw[HE.out];rfl),H5.out.bl⟩
 ·have HE:Hid (F=0):=by show _=_;rw[HX.out];rfl
  go_wp2;go_ret;exact⟨zau (by rw[HE.out];rfl),H5.out.bl⟩
theorem zcq {fn:Func}{t u v:Tmp}(h:fn.results=#[.tmp t,.tmp u,.tmp v])(tmps:Array Value)(P:Program)(w:World) :
  (results fn tmps).run P w=.ok (.tuple #[tmps.getD t undef,tmps.getD u undef,tmps.getD v undef]) w:=by simp[results,h,go_sem]
theorem zep {ops:Array Oper}{rest:List Oper}{o1 o2 o3:Oper}{a:Act}{w:World}{Q:Exit→Act→World→Prop}(hg1:o1.guard=none)(hg2:o2.guard=none)(hg3:o3.guard=none)(ty:TypeId)(h1:o1.op=.alloc ty)(z:Operand)(h2:o2.op=.assign z)(x y:Operand)(h3:o3.op=.store ty x y)
  (zs:List Value) (hz:(Instr.alloc ty true (.tuple #[])).run Tryz.prog w=.ok (.pointer (some ⟨w.heap.size,0,none⟩)) (w.alloc (.cells zs.toArray ty))) (hd3:o3.dst=none)
  (v:Value) (hv:(a.put o1.dst (.pointer (some ⟨w.heap.size,0,none⟩))).eval z=v)
  (cells:Array Value) (hx:((a.put o1.dst (.pointer (some ⟨w.heap.size,0,none⟩))).put o2.dst v).eval x=.pointer (some ⟨w.heap.size,0,none⟩)) (hy:((a.put o1.dst (.pointer (some ⟨w.heap.size,0,none⟩))).put o2.dst v).eval y=.agg cells)
  (hl:zs.length=cells.size) (hi:(Tryz.prog.info? ty).map (·.size)=some cells.size) (hc:cells.all (·.oneCell')=true)
  (h:wpList Tryz.prog ops Q rest ((a.put o1.dst (.pointer (some ⟨w.heap.size,0,none⟩))).put o2.dst v) (w.alloc (.cells cells ty))):wpList Tryz.prog ops Q (o1 :: o2 :: o3 :: rest) a w:=by
 refine wpList_plain hg1 fun _ hK=>?_;unfold Oper.wp execOp;simp only[h1,Sem.run_bind,hz,Result.andThen_ok,Sem.run_pure];refine hK _ _ ?_;refine wpList_plain hg2 fun _ hK2=>?_;unfold Oper.wp execOp;simp only[h2,Sem.run_pure];refine hK2 _ _ ?_;rw[hv];refine wpList_store_mid hg3 ty x y h3 w.heap.size 0 cells hx hy (fun j hj=>⟨?_,?_⟩) hi hc ?_
 ·have:j<zs.length:=by omega
  show ((w.alloc (.cells zs.toArray ty)).cell? ⟨w.heap.size,0+j,none⟩).isSome=true
  simp[this]
 ·simp
 ·have k:=zdv w ty cells.toList [] zs (by simpa using hl);simp only[List.nil_append,List.length_nil] at k;rw[k,hd3];exact h
theorem ChR.no {c:Kl}(h:c.fm=false):ChR c (-1) 0 9:=⟨fun _=>⟨⟨rfl,rfl⟩,rfl⟩,fun h2=>(by rw[h] at h2;cases h2),fun h2=>(by rw[h] at h2;cases h2)⟩
theorem ChR.at_ {c:Kl}(h:c.fm=true){j:Nat}(hj:j<c.fs.len)(h1:c.brk j≠0)(h2:∀i,i<j→c.brk i=0):ChR c j (c.brk j) 11 :=
 ⟨fun h3=>(by rw[h] at h3;cases h3),fun _ k hk k1 k2=>by
  have:k=j:=by
   rcases Nat.lt_trichotomy k j with h4 | h4 | h4
   ·exact absurd (h2 k h4) k1
   ·exact h4
   ·exact absurd (k2 j h4) h1
  subst this;exact⟨⟨rfl,rfl⟩,rfl⟩,fun _ hh=>absurd (hh j hj) h1⟩
theorem ChR.all {c:Kl}(h:c.fm=true)(h2:∀i,i<c.fs.len→c.brk i=0):ChR c 0 0 0 :=
 ⟨fun h3=>(by rw[h] at h3;cases h3),fun _ k hk k1 _=>absurd (h2 k hk) k1,fun _ _=>⟨⟨rfl,rfl⟩,rfl⟩⟩
structure ChkR (c:Kl)(w:World)(e:Ending)(w':World):Prop where
 ret:∃k r er:Int,e=.returned (.tuple #[.int .i64 k,.int .i64 r,.int .i64 er])∧ChR c k r er
 bl:Below w.heap.size w w'
theorem zn3 (c:Kl)(w:World)(hc:c.At w)(hO:Og w):Calls Tryz.prog 15 #[.agg #[.slice c.n.ao c.n.len c.n.cap,.slice c.g.ao c.g.len c.g.cap,.slice c.fs.ao c.fs.len c.fs.cap]] w fun e w'=>ChkR c w e w':=by
 have B0:=zac w (.cells #[.slice c.n.ao c.n.len c.n.cap,.slice c.g.ao c.g.len c.g.cap,.slice c.fs.ao c.fs.len c.fs.cap] 28);have b:=Blk.new w c.cs 28;have c0:=b.cell 0 rfl;have c1:=b.cell 1 rfl;have c2:=b.cell 2 rfl;have h0:=zog c _ (Kl.At.kept B0 hc) (hO.kept B0);have H0:=hyd (show Below w.heap.size w _∧Blk _ w.heap.size c.cs 28 from ⟨B0,b⟩);have HD:=hyd hc;have hbd:=hc.fs.bound;have HNIL:=hyd hc.fs.nil;have HNo:=hyd (@ChR.no c);have HAt:=hyd (@ChR.at_ c);have HAll:=hyd (@ChR.all c);have HPos:Hid (c.fm=true→0<c.fs.len):=fun h=>by
  unfold Kl.fm at h;simp only[Bool.and_eq_true,decide_eq_true_eq] at h;exact h.2.1.1
 clear B0 b hc hO;generalize c.fm=F at *;go_enter Tryz.func15,Tryz.ntmps15
 go_wp2_with fail
 refine h0.mono ?_;rintro _ u1 ⟨rfl,hb⟩;have H1:=hyd (show Below w.heap.size w u1∧Blk u1 w.heap.size c.cs 28 from ⟨Below.next H0.out.1 hb,H0.out.2.kept hb⟩);clear h0 hb c0 c1 c2 H0;cases F
 ·go_wp2;refine bodyPost_ret (zcq rfl _ _ _) rfl ?_;exact⟨⟨_,_,_,rfl,HNo.out (by simp)⟩,H1.out.1⟩
 have hpos:=HPos.out (by simp);have a0:=HNIL.out hpos;have HA0:=hyd a0;clear a0;have c2:=H1.out.2.cell 2 rfl;rw[HA0.out] at c2;have HP:=hyd hpos;clear hpos HNIL;go_wp2;go_loopw [14] (fun i wr=>∃(j:Nat),j≤c.fs.len∧i=.int .i64 j∧(Below w.heap.size w wr∧Blk wr w.heap.size c.cs 28)∧(∀i,i<j→c.brk i=0)) (fun i _=>c.fs.len - (intOf i).toNat)
 case atStart=>exact⟨0,Nat.zero_le _,rfl,H1.out,fun i hi=>absurd hi (Nat.not_lt_zero _)⟩
 case round =>
  clear H1 c2;obtain⟨j,hj,rfl,hBl,hall⟩:=hrel;have HB:=hyd hBl;have HL:=hyd hall;clear hBl hall;by_cases hlt:j<c.fs.len
  ·have ij:(j:Int)<c.fs.len:=by omega
   have r0:=zaf (HD.out.fs.row j hlt) HB.out.1;have HF:=hyd (Cf.At.kept HB.out.1 (HD.out.fs.each j hlt));have HY:=hyd (zbx (P:=fun i=>c.brk i=0) HL.out);have HAt2:Hid (c.brk j≠0→ChR c j (c.brk j) 11):=fun h=>HAt.out (by simp) hlt h HL.out;have HQ:Hid (c.brk j=(c.fs.x j).brk c.fs.len c.n.len):=rfl;generalize c.fs.x j=f at *;go_upto_region 6 with (first | (refine wpList_load_mid rfl 44 (.tmp 17) rfl c.fs.b (c.fs.o+j*18) (by kernel_rfl) f.vs _ r0 Tryz.underlying44 rfl (by kernel_rfl) ?_) | (refine zep rfl rfl rfl 44 rfl (.tmp 16) rfl (.tmp 6) (.tmp 18) rfl z_fn (alloc_fn _) rfl (.int .i64 j) (by kernel_rfl) f.vs.toArray (by kernel_rfl) (by kernel_rfl) rfl (by kernel_rfl) (by simpa using f.vs_one) ?_))
   have B1:=zac wr (.cells f.vs.toArray 44);have HU:=hyd (show Sb w c f w.heap.size wr.heap.size (wr.alloc (.cells f.vs.toArray 44)) from ⟨Below.next HB.out.1 B1,HB.out.2.kept B1,Blk.new wr _ _,Cf.At.kept B1 HF.out⟩);clear r0 HF HB B1;generalize wr.alloc (.cells f.vs.toArray 44)=U at *;generalize wr.heap.size=BF at *;have d0:=HU.out.bC.cell 0 rfl;have d1:=HU.out.bC.cell 1 rfl;have d2:=HU.out.bC.cell 2 rfl;have rF:=HU.out.bF.range;have hc:=zpj c f U HU.out.f;rw[←HQ.out] at hc;generalize c.brk j=q at *;go_wp2_with (refine wpList_load_mid rfl 44 (.tmp 6) rfl BF 0 (by kernel_rfl) f.vs _ rF Tryz.underlying44 rfl (by kernel_rfl) ?_)
   refine hc.mono ?_;rintro _ u2 ⟨rfl,hb⟩;have HU2:=hyd (HU.out.kept hb);clear hc hb d0 d1 d2 rF HU;by_cases hq:q=0
   ·have e1:((q:Int) != 0)=false:=by simp;omega
    have HE:=hyd (HY.out hq);clear hq;go_wp2;go_roundw
    case rel=>exact⟨j+1,by omega,by go_num,⟨HU2.out.bl,HU2.out.bC⟩,HE.out⟩
    case measure=>simp[intOf];omega
   ·have e1:((q:Int) != 0)=true:=by simp;omega
    have HE:=hyd (HAt2.out hq);clear hq;go_wp2;refine bodyPost_ret (zcq rfl _ _ _) rfl ?_;exact⟨⟨_,_,_,rfl,HE.out⟩,HU2.out.bl⟩
  ·have e2:¬(j:Int)<c.fs.len:=by omega
   have HE:=hyd (HAll.out (by simp) (fun i hi=>HL.out i (by omega)));go_wp2;refine bodyPost_ret (zcq rfl _ _ _) rfl ?_;exact⟨⟨_,_,_,rfl,HE.out⟩,HB.out.1⟩
def tkL:List Int:=[0,0,0,0,1,1,2,2,2,2,2,2,2,1,2,1,1,0,0,2,1,1,2,1,0,1,1,1]
def puL:List Int:=[0,1,1,1,0,0,1,1,1,1,1,1,1,1,1,1,1,1,1,1,1,1,0,0,0,0,0,0]
def tkF (op:Int):Int:=tkL.getD op.toNat 0
def puF (op:Int):Int:=puL.getD op.toNat 0
def Pg2 (w:World):Prop:=(∀i,i<28→w.cell? ⟨0,i,none⟩=some (.int .i64 (tkF i)))∧(∀i,i<28→w.cell? ⟨1,i,none⟩=some (.int .i64 (puF i)))
theorem Pg2.kept {w w':World}(h:Pg2 w)(hb:Below w.heap.size w w'):Pg2 w':=⟨fun i hi=>up hb (h.1 i hi),fun i hi=>up hb (h.2 i hi)⟩
def popI (c:Kl)(x:In):Int × Int:=if x.op<1∨27<x.op then (0,0) else if x.op=17 then (if btw x.a 0 c.fs.len=true then (((c.fs.x x.a.toNat).c.len:Int),1) else (0,0)) else (tkF x.op,puF x.op)
def popV (c:Kl)(f:Cf)(a:Int):Int × Int:=if a<0∨(f.cd.len:Int)≤a then (0,0) else popI c (f.cd.x a.toNat)
theorem Sb.new2 (w:World)(c:Kl)(f:Cf)(hf:f.At w):Sb w c f (w.heap.size+1) w.heap.size ((w.alloc (.cells f.vs.toArray 44)).alloc (.cells #[.slice c.n.ao c.n.len c.n.cap,.slice c.g.ao c.g.len c.g.cap,.slice c.fs.ao c.fs.len c.fs.cap] 28)):=by
 have B0:=zac w (.cells f.vs.toArray 44);have b0:=Blk.new w f.vs 44;have B1:=zac (w.alloc (.cells f.vs.toArray 44)) (.cells #[.slice c.n.ao c.n.len c.n.cap,.slice c.g.ao c.g.len c.g.cap,.slice c.fs.ao c.fs.len c.fs.cap] 28);have b1:=Blk.new (w.alloc (.cells f.vs.toArray 44)) c.cs 28;rw[alloc_size] at b1;exact⟨Below.next B0 B1,b1,b0.kept B1,Cf.At.kept (Below.next B0 B1) hf⟩
theorem zec {a b a' b':Int}(h1:a=a')(h2:b=b'):Ending.returned (.tuple #[.int .i64 a,.int .i64 b])=.returned (.tuple #[.int .i64 a',.int .i64 b']):=by rw[h1,h2]
theorem ztv (c:Kl)(f:Cf)(a:Int)(w:World)(hc:c.At w)(hf:f.At w)(hT:Pg2 w):Calls Tryz.prog 138 #[.agg f.vs.toArray,.agg #[.slice c.n.ao c.n.len c.n.cap,.slice c.g.ao c.g.len c.g.cap,.slice c.fs.ao c.fs.len c.fs.cap],.int .i64 a] w fun e w'=>e=.returned (.tuple #[.int .i64 (popV c f a).1,.int .i64 (popV c f a).2])∧Below w.heap.size w w':=by
 have H1:=hyd (Sb.new2 w c f hf);have HX:Hid (popV c f a=if a<0∨(f.cd.len:Int)≤a then (0,0) else popI c (f.cd.x a.toNat)):=rfl;have HD:=hyd (show c.At w∧f.At w∧Pg2 w from ⟨hc,hf,hT⟩);have hbd:=hf.cd.bound;have hbf:=hc.fs.bound;have HNIL:=hyd hf.cd.nil;have HNF:=hyd hc.fs.nil;generalize popV c f a=R at *;obtain⟨R1,R2⟩:=R;clear hc hf hT;have hs:=alloc_size w (.cells f.vs.toArray 44);generalize hw0:w.alloc (.cells f.vs.toArray 44)=u0 at *;generalize hw1:u0.alloc (.cells #[.slice c.n.ao c.n.len c.n.cap,.slice c.g.ao c.g.len c.g.cap,.slice c.fs.ao c.fs.len c.fs.cap] 28)=u1 at *;have f14:=H1.out.bF.cell 14 rfl;by_cases a1:a<0
 ·have HE:Hid ((R1,R2)=((0:Int),(0:Int))):=by show _=_;rw[HX.out,if_pos (Or.inl a1)]
  go_enter Tryz.func138,Tryz.ntmps138
  go_wp2
  go_ret2
  exact⟨zec (congrArg Prod.fst HE.out).symm (congrArg Prod.snd HE.out).symm,H1.out.bl⟩
 by_cases a2:(f.cd.len:Int)≤a
 ·have HE:Hid ((R1,R2)=((0:Int),(0:Int))):=by show _=_;rw[HX.out,if_pos (Or.inr a2)]
  go_enter Tryz.func138,Tryz.ntmps138
  go_wp2
  go_ret2
  exact⟨zec (congrArg Prod.fst HE.out).symm (congrArg Prod.snd HE.out).symm,H1.out.bl⟩
 obtain⟨k,rfl⟩:∃k:Nat,a=k:=⟨a.toNat,by omega⟩;have hk:k<f.cd.len:=by omega
 have HX2:Hid ((R1,R2)=popI c (f.cd.x k)):=by show _=_;rw[HX.out,if_neg (by omega)];rfl
 have ik:(k:Int)<f.cd.len:=by omega
 clear a1 a2 HX;rw[HNIL.out (by omega)] at f14;have r0:=H1.out.f.cd.row k hk;have HPI:Hid (popI c (f.cd.x k)=if (f.cd.x k).op<1∨27<(f.cd.x k).op then (0,0) else if (f.cd.x k).op=17 then (if btw (f.cd.x k).a 0 c.fs.len=true then (((c.fs.x (f.cd.x k).a.toNat).c.len:Int),1) else (0,0)) else (tkF (f.cd.x k).op,puF (f.cd.x k).op)):=rfl;rw[HPI.out] at HX2;clear HPI;go_enter Tryz.func138,Tryz.ntmps138
 generalize f.cd.x k=x at *;go_upto_region 4 with (first | (refine wpList_load_mid rfl 50 (.tmp 21) rfl f.cd.b (f.cd.o+k*7) (by kernel_rfl) x.vs _ r0 Tryz.underlying50 rfl (by kernel_rfl) ?_) | (refine zao rfl rfl 50 rfl (.tmp 8) (.tmp 22) rfl zfm (zem _) rfl x.vs.toArray (by kernel_rfl) (by kernel_rfl) rfl (by kernel_rfl) (by simpa using x.vs_one) ?_))
 simp only[Act.put,zA,zB,zC];have B1:=zac u1 (.cells x.vs.toArray 50);have HS:=hyd (show Sb w c f (w.heap.size+1) w.heap.size _∧Blk _ u1.heap.size x.vs 50 from ⟨H1.out.kept B1,Blk.new u1 _ _⟩);clear H1 hw0 hw1 hs r0 f14 B1;generalize u1.alloc (.cells x.vs.toArray 50)=u2 at *;generalize u1.heap.size=BI at *;have d0:=HS.out.2.cell 0 rfl;have d1:=HS.out.2.cell 1 rfl;have e2:=HS.out.1.bC.cell 2 rfl;by_cases o1:x.op<1
 ·have HE:Hid ((R1,R2)=((0:Int),(0:Int))):=by show _=_;rw[HX2.out,if_pos (Or.inl o1)]
  go_wp2
  go_ret2
  exact⟨zec (congrArg Prod.fst HE.out).symm (congrArg Prod.snd HE.out).symm,HS.out.1.bl⟩
 by_cases o2:27<x.op
 ·have HE:Hid ((R1,R2)=((0:Int),(0:Int))):=by show _=_;rw[HX2.out,if_pos (Or.inr o2)]
  go_wp2
  go_ret2
  exact⟨zec (congrArg Prod.fst HE.out).symm (congrArg Prod.snd HE.out).symm,HS.out.1.bl⟩
 by_cases o3:x.op=17
 ·have HX3:Hid ((R1,R2)=if btw x.a 0 c.fs.len=true then (((c.fs.x x.a.toNat).c.len:Int),1) else (0,0)):=by show _=_;rw[HX2.out,if_neg (by omega),if_pos o3]
  clear HX2 o1 o2;have HOP:=hyd o3;rw[o3] at d0;clear o3;have hb:=zcl x.a 0 c.fs.len u2;have HBT:Hid (btw x.a 0 c.fs.len=(decide (0≤x.a)&&decide (x.a<c.fs.len))):=rfl;generalize btw x.a 0 c.fs.len=bt at *;go_wp2_with fail
  refine hb.mono ?_;rintro _ u3 ⟨rfl,hb3⟩;have HS3:=hyd (show Sb w c f (w.heap.size+1) w.heap.size u3∧Blk u3 BI x.vs 50 from ⟨HS.out.1.kept hb3,HS.out.2.kept hb3⟩);clear hb hb3 HS d0 d1 e2;cases bt
  ·have HE:Hid ((R1,R2)=((0:Int),(0:Int))):=by show _=_;rw[HX3.out];rfl
   go_wp2
   go_ret2
   exact⟨zec (congrArg Prod.fst HE.out).symm (congrArg Prod.snd HE.out).symm,HS3.out.1.bl⟩
  ·have hbt:=HBT.out.symm;simp only[Bool.and_eq_true,decide_eq_true_eq] at hbt;obtain⟨m,hm⟩:∃m:Nat,x.a=m:=⟨x.a.toNat,by omega⟩;have HE:Hid ((R1,R2)=(((c.fs.x m).c.len:Int),(1:Int))):=by show _=_;rw[HX3.out,if_pos rfl,hm];rfl
   have hml:m<c.fs.len:=by omega
   have iml:(m:Int)<c.fs.len:=by omega
   have d0:=HS3.out.2.cell 0 rfl;have d1:=HS3.out.2.cell 1 rfl;have e2:=HS3.out.1.bC.cell 2 rfl;rw[hm] at d1;rw[HNF.out (by omega)] at e2;have q0:=zaf (HD.out.1.fs.row m hml) HS3.out.1.bl 10 _ rfl;have p0:=(HD.out.2.2.kept HS3.out.1.bl).2 17 (by decide);rw[HOP.out] at d0;clear hbt hm HX3 HBT;go_upto_region 10 with fail
   go_quiet (fail)
   have HS4:=hyd (HS3.out.1.kept (zbv (Below.refl _ _) nq));go_wp2
   go_ret2
   exact⟨zec (congrArg Prod.fst HE.out).symm (congrArg Prod.snd HE.out).symm,HS4.out.bl⟩
 ·have HE:Hid ((R1,R2)=(tkF x.op,puF x.op)):=by show _=_;rw[HX2.out,if_neg (by omega),if_neg o3]
  have n3:(x.op != 17)=true:=by simpa using o3
  obtain⟨m,hm⟩:∃m:Nat,x.op=m:=⟨x.op.toNat,by omega⟩;have q0:=(HD.out.2.2.kept HS.out.1.bl).1 m (by omega);have p0:=(HD.out.2.2.kept HS.out.1.bl).2 m (by omega);have i1:¬(m:Int)<1:=by omega
  have i2:¬(27:Int)<m:=by omega
  have i3:(m:Int)<28:=by omega
  rw[hm] at d0 HE n3;clear hm HX2 o1 o2 o3;go_upto_region 7 with fail
  go_quiet (fail)
  have HS4:=hyd (HS.out.1.kept (zbv (Below.refl _ _) nq));go_wp2
  go_ret2
  exact⟨zec (congrArg Prod.fst HE.out).symm (congrArg Prod.snd HE.out).symm,HS4.out.bl⟩
structure Tq where
 n:Nat
 x:Nat→Ty
def Ty.sq (t:Ty):Tq:=⟨t.len,t.ps⟩
def Tq.push (s:Tq)(t:Ty):Tq:=⟨s.n+1,fun i=>if i=s.n then t else s.x i⟩
def Tq.put (s:Tq)(j:Nat)(t:Ty):Tq:=⟨s.n,fun i=>if i=j then t else s.x i⟩
def Tq.lift (n:Strs)(g:Grid)(s:Tq)(k:Int):Tq:=⟨s.n,fun i=>zak n g (s.x i) k⟩
def blw (n:Strs)(g:Grid)(s t:Ty):Bool:=s.same t||belB n g s t
def slB (n:Strs)(g:Grid)(s t:Ty):Bool:=decide (t.k=0)||blw n g s t
def fitP (n:Strs)(g:Grid)(q:Pt)(st sl:Tq):Bool :=
 (decide (st.n=q.st.len)&&decide (∀i,i<st.n→blw n g (st.x i) (q.st.ps i)=true))&&decide (∀i,i<sl.n→slB n g (sl.x i) (q.sl.ps i)=true)
def Cf.fn (f:Cf):Fn:=⟨f.p,f.r,f.c,f.h,f.e,f.sl,⟨f.cd.ao,f.cd.len,f.cd.cap⟩,⟨f.hd.ao,f.hd.len,f.hd.cap⟩,⟨f.pt.ao,f.pt.len,f.pt.cap⟩,⟨f.rg.ao,f.rg.len,f.rg.cap⟩⟩
def Cf.bare (f:Cf):Cf:=⟨zaa 0 0,zaa 0 0,zaa 0 0,0,0,0,f.cd,⟨none,0,0,0,0,fun _=>⟨0,0,0⟩⟩,⟨none,0,0,0,0,fun _=>⟨.dm,.dm,0⟩⟩,⟨none,0,0,0,0,fun _=>⟨0,0,⟨none,0,0,0,0,fun _=>0⟩⟩⟩⟩
def noBl:Rw Bool:=⟨none,0,0,0,0,fun _=>false⟩
def mayB (st:Ty):Bool:=decide (2≤st.len)&&(decide ((st.ps (st.len - 2)).k=4)&&decide ((st.ps (st.len - 2)).e≠-1))
def Cf.callB (f:Cf)(i:Nat):Bool:=decide ((f.cd.x i).op=19)&&mayB (f.pt.x i).st
def Cf.calls (f:Cf):Rw Bool:=⟨none,0,0,f.cd.len,0,f.callB⟩
structure Vp where
 c:Kl
 f:Cf
 p:Nat
def Vp.bot (v:Vp):Int:=botI v.c.n v.c.g
def Vp.pt (v:Vp):Pt:=v.f.pt.x v.p
def Vp.ins (v:Vp):In:=v.f.cd.x v.p
def Vp.op (v:Vp):Int:=v.ins.op
def Vp.a (v:Vp):Int:=v.ins.a
def Vp.env (v:Vp):Int:=v.pt.env
def Vp.need (v:Vp):Nat:=(popV v.c v.f v.p).1.toNat
def Vp.left (v:Vp):Nat:=v.pt.st.len - v.need
def Vp.tk (v:Vp)(i:Nat):Ty:=v.pt.st.ps (v.left+i)
def Vp.raise (v:Vp)(t:Ty)(k:Int):Ty:=zak v.c.n v.c.g t k
def Vp.both (v:Vp)(a b:Int):Int:=zan v.c.n v.c.g a b
def Vp.leq (v:Vp)(a b:Int):Bool:=leqB v.c.n v.c.g a b
def Vp.blw (v:Vp)(s t:Ty):Bool:=Go.Proofs.YtfobijdkoeifjaaGreatDoor.blw v.c.n v.c.g s t
def Vp.sigT (v:Vp)(f:Cf):Ty:=zee v.c.n v.c.g f.fn
def Vp.reckT (v:Vp):Ty × Int :=
 if ((v.tk 0).k != 1||(v.tk 1).k != 1)=true then (zaa 0 0,-1)
 else (zaa (if v.op=11∨v.op=12 then 2 else 1) (v.both (v.tk 0).l (v.tk 1).l),if v.op=9∨v.op=10 then v.both (v.tk 1).l v.env else -1)
def Vp.sideT (v:Vp)(i:Nat):Ty:=if ((v.tk 0).k != 3)=true then zaa 0 0 else v.raise ((v.tk 0).ps i) (v.tk 0).l
def Vp.capsB (v:Vp):Bool:=decide (∀i,i<v.need→v.blw (v.tk i) ((v.c.fs.x v.a.toNat).c.ps i)=true)
def Vp.closT (v:Vp):Ty:=if v.capsB=true then v.sigT (v.c.fs.x v.a.toNat) else zaa 0 0
def Vp.lab (v:Vp):Int:=v.both (v.tk 0).l v.env
def Vp.callT (v:Vp):Ty × Int :=
 if ((v.tk 0).k != 4||!(v.blw (v.tk 1) ((v.tk 0).ps 0)))=true then (zaa 0 0,-1)
 else if (v.leq v.lab (v.tk 0).h&&v.leq v.f.h (v.tk 0).h)=true then (v.raise ((v.tk 0).ps 1) v.lab,if (v.tk 0).e=-1 then -1 else v.both (v.tk 0).e v.lab) else (zaa 0 0,-1)
def Vp.cellT (v:Vp):Ty:=if v.blw (v.tk 0) v.ins.t=true then mk1 5 v.bot v.ins.t else zaa 0 0
def Vp.heldT (v:Vp):Ty:=if ((v.tk 0).k != 5)=true then zaa 0 0 else v.raise ((v.tk 0).ps 0) (v.tk 0).l
def Vp.makT (v:Vp):Ty × Int :=
 if v.op=1 then (zaa 1 v.bot,-1) else if v.op=2 then (zaa 2 v.bot,-1) else if v.op=3 then (v.pt.sl.ps v.a.toNat,-1)
 else if v.op=13 then (zb0 2 (v.tk 0),-1) else if v.op=14 then (mk2 3 v.bot 0 0 (v.tk 0) (v.tk 1),-1)
 else if v.op=15 then (v.sideT 0,-1) else if v.op=16 then (v.sideT 1,-1) else if v.op=17 then (v.closT,-1)
 else if v.op=18 then (v.sigT v.f,-1) else if v.op=19 then v.callT else if v.op=20 then (v.cellT,-1) else if v.op=21 then (v.heldT,-1) else v.reckT
def Vp.setB (v:Vp):Bool:=decide ((v.tk 0).k=5)&&(v.blw (v.raise (v.tk 1) v.env) ((v.tk 0).ps 0)&&(v.leq (v.tk 0).l ((v.tk 0).ps 0).l&&(v.leq v.env ((v.tk 0).ps 0).l&&v.leq v.f.h ((v.tk 0).ps 0).l)))
def Vp.outB (v:Vp):Bool:=decide ((v.tk 0).k=1)&&(v.leq (v.tk 0).l v.a&&(v.leq v.env v.a&&v.leq v.f.h v.a))
def Vp.st0 (v:Vp):Tq:=⟨v.left,v.pt.st.ps⟩
def Vp.sl0 (v:Vp):Tq:=v.pt.sl.sq
structure Dn where
 ok:Bool
 st:Tq
 sl:Tq
 k:Int
 p:Int
def Vp.mkD (v:Vp):Dn:=⟨true,((if v.makT.2=-1 then v.st0 else v.st0.lift v.c.n v.c.g v.makT.2).push (v.raise v.makT.1 (v.both v.env v.makT.2))),v.sl0,v.makT.2,v.makT.2⟩
def Vp.done (v:Vp):Dn :=
 if v.op=4 then ⟨true,v.st0,v.sl0.put v.a.toNat (v.raise (v.tk 0) v.env),-1,-1⟩
 else if v.op=5∨v.op=24 then ⟨true,v.st0,v.sl0,-1,-1⟩
 else if v.op=22 then ⟨v.setB,v.st0,v.sl0,-1,-1⟩
 else if v.op=23 then ⟨v.outB,v.st0,v.sl0,-1,-1⟩
 else if v.op=25 then ⟨decide ((v.tk 0).k=2),v.st0.lift v.c.n v.c.g v.lab,v.sl0,v.lab,-1⟩
 else if v.op=26 then ⟨decide ((v.tk 0).k=1),v.st0,v.sl0,-1,v.lab⟩
 else if v.op=27 then ⟨decide (v.left=0)&&v.blw (v.raise (v.tk 0) v.env) v.f.r,v.st0,v.sl0,-1,-1⟩
 else v.mkD
def Vp.fit (v:Vp)(st sl:Tq)(q:Nat):Bool:=fitP v.c.n v.c.g (v.f.pt.x q) st sl
noncomputable def Vp.goesB (v:Vp):Bool:=open Classical in decide (∀a ∈ v.f.bare.ws noBl v.p,v.fit v.done.st v.done.sl a.toNat=true)
def Vp.caughtB (v:Vp):Bool:=if v.done.p=-1 then true else if v.f.han v.p=-1 then v.leq v.done.p v.f.e else v.fit ⟨1,fun _=>zaa 1 v.done.p⟩ v.sl0 (v.f.han v.p).toNat
def Vp.secB (v:Vp)(r:Rn):Bool:=decide (∀i,i<r.ps.len→v.leq v.done.k (v.f.pt.x (r.ps.x i).toNat).env=true)
noncomputable def Vp.regT (v:Vp) (r:Rn):Bool:=open Classical in decide (v.f.hold v.f.calls r=0)&&v.secB r
noncomputable def Vp.contB (v:Vp):Bool:=if v.done.k=-1 then true else match (List.range v.f.rg.len).find? (fun i=>decide ((v.f.rg.x i).at_=v.p)) with | some i=>v.regT (v.f.rg.x i) | none=>false
noncomputable def Vp.acc (v:Vp):Bool:=decide (v.need≤v.pt.st.len)&&(v.done.ok&&(v.goesB&&(v.caughtB&&v.contB)))
def Cf.begSl (f:Cf):Tq:=⟨f.sl.toNat,fun i=>if i=0 then f.p else if i - 1<f.c.len then f.c.ps (i - 1) else zaa 0 0⟩
def Cf.begB (c:Kl)(f:Cf):Bool:=fitP c.n c.g (f.pt.x 0) ⟨0,fun _=>.dm⟩ f.begSl
noncomputable def Cf.ref (c:Kl) (f:Cf):Int:=if f.begB c=false then 0 else match (List.range f.cd.len).find? (fun i=>!(Vp.mk c f i).acc) with | some i=>i | none=>-1
noncomputable def Kl.ref (c:Kl) (k:Nat):Int:=(c.fs.x k).ref c
structure VkR (c:Kl)(k a e:Int):Prop where
 form:c.fm=false→(k=-1∧a=-1)∧e=9
 bad:c.fm=true→∀j,j<c.fs.len→c.brk j≠0→(∀i,i<j→c.brk i=0)→(k=j∧a=-1)∧e=11
 no:c.fm=true→(∀i,i<c.fs.len→c.brk i=0)→∀j,j<c.fs.len→c.ref j≠-1→(∀i,i<j→c.ref i=-1)→(k=j∧a=c.ref j)∧e=11
 ok:c.fm=true→(∀i,i<c.fs.len→c.brk i=0)→(∀i,i<c.fs.len→c.ref i=-1)→(k=0∧a=0)∧e=0
end
section
open Go.RowKit
theorem zwq:(Rows.laid_palisade_shape_takes:DataW Unit)=Lib.tabData .i64 tkL:=by kernel_rfl
theorem zv0:(Rows.laid_palisade_shape_puts:DataW Unit)=Lib.tabData .i64 puL:=by kernel_rfl
theorem Tryz.gTN : Tryz.prog.globalNamed "palisade/shape.takes" = some 0 := by kernel_rfl
theorem Tryz.gTTy:(Tryz.prog.globals[0]?).map (·.type)=some 193:=by kernel_rfl
theorem Tryz.gUN : Tryz.prog.globalNamed "palisade/shape.puts" = some 1 := by kernel_rfl
theorem Tryz.gUTy:(Tryz.prog.globals[1]?).map (·.type)=some 193:=by kernel_rfl
theorem zwr (i:Nat)(h:i<28):tkL[i]?=some (tkF i):=by
 have:=(show (List.range 28).all (fun i=>tkL[i]?==some (tkF i))=true by decide);have h2:=List.all_eq_true.1 this i (List.mem_range.2 h)
 simpa using h2
theorem zv6 (i:Nat)(h:i<28):puL[i]?=some (puF i):=by
 have:=(show (List.range 28).all (fun i=>puL[i]?==some (puF i))=true by decide);have h2:=List.all_eq_true.1 this i (List.mem_range.2 h)
 simpa using h2
theorem zpt {W : World} {p : String × DataW Unit} {rest : List (String × DataW Unit)} (h : laidMet Tryz.prog (p :: ("palisade/shape.takes", Rows.laid_palisade_shape_takes) :: ("palisade/shape.puts", Rows.laid_palisade_shape_puts) :: rest) W) : Pg2 W := by
 have h1:=h.tail;have h2:=h1.tail;refine⟨fun i hi=>?_,fun i hi=>?_⟩
 ·rw[zi4 zwq Tryz.gTN Tryz.gTTy h1 i,List.getElem?_map,zwr i hi];rfl
 ·rw[zi4 zv0 Tryz.gUN Tryz.gUTy h2 i,List.getElem?_map,zv6 i hi];rfl
end
end Go.Proofs.YtfobijdkoeifjaaGreatDoor
