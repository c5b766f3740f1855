import Derived.Test.YtfobijdkoeifjaaGreatDoorP25
import Derived.Test.YtfobijdkoeifjaaGreatDoorP24
import Derived.Test.YtfobijdkoeifjaaGreatDoorP18
import Derived.Test.YtfobijdkoeifjaaGreatDoorP23
set_option maxRecDepth 100000
set_option maxHeartbeats 32000000
namespace Go.Proofs.YtfobijdkoeifjaaGreatDoor
section
open Go Go.RowKit
def bcR (f:Cf)(j n:Nat):List Value:=(List.range n).map fun i=>.bool (if i<j then f.callB i else false)
theorem zoq (f:Cf)(j n:Nat):(bcR f j n).length=n:=by simp[bcR]
theorem zwf (f:Cf)(n:Nat):bcR f 0 n=List.replicate n (.bool false):=by
 apply List.ext_getElem
 ·simp[bcR]
 ·intro i h1 h2;simp[bcR]
theorem zo5 (f:Cf)(j n:Nat){b:Bool}(hb:b=f.callB j):(bcR f j n).set j (.bool b)=bcR f (j+1) n:=by
 subst hb;apply List.ext_getElem
 ·simp[bcR]
 ·intro i h1 h2;by_cases e:j=i
  ·subst e;simp[bcR]
  ·rw[List.getElem_set_ne e];simp only[bcR,List.getElem_map,List.getElem_range];by_cases k:i<j
   ·rw[if_pos k,if_pos (by omega)]
   ·rw[if_neg k,if_neg (by omega)]
def CaP (f:Cf)(w:World)(e:Ending)(w':World):Prop:=∃B:Nat,e=.returned (.slice (some ⟨B,0,none⟩) f.cd.len f.cd.len)∧(Blk w' B (bcR f f.cd.len f.cd.len) 4∧w.heap.size≤B)∧Below w.heap.size w w'
theorem zui {f:Cf}{j:Nat}(h:(f.cd.x j).op≠19):f.callB j=false:=by unfold Cf.callB;rw[decide_eq_false h];rfl
theorem zq4 {f:Cf}{j:Nat}(h:(f.cd.x j).op=19):f.callB j=mayB (f.pt.x j).st:=by unfold Cf.callB;rw[decide_eq_true h];rfl
structure Cx (w0:World)(c:Kl)(B:Nat)(u:World):Prop where
 bl:Below w0.heap.size w0 u
 b:Blk u B c.cs 28
theorem Cx.kept {w0:World}{c:Kl}{B:Nat}{u u':World}(h:Cx w0 c B u)(hb:Below u.heap.size u u'):Cx w0 c B u':=⟨Below.next h.bl hb,h.b.kept hb⟩
theorem zpl (c:Kl)(k:Nat)(w:World)(hc:c.At w)(hk:k<c.fs.len)(hp:(c.fs.x k).pt.len=(c.fs.x k).cd.len)(hn:(c.fs.x k).cd.len≤100000):Calls Tryz.prog 13 #[.agg c.cs.toArray,.int .i64 k] w (CaP (c.fs.x k) w):=by
 have B0:=zac w (.cells c.cs.toArray 28);have H1:Hid (Cx w c w.heap.size (w.alloc (.cells c.cs.toArray 28))):=⟨B0,Blk.new w _ _⟩;have HF:=hyd (hc.fs.each k hk);have HR:=hyd (hc.fs.row k hk);have HNI:=hyd (hc.fs.nil (by omega));have HN:=hyd hn;have HPP:=hyd hp;have hbd:=hc.fs.bound;have ik:(k:Int)<c.fs.len:=by omega
 have ik2:¬(c.fs.len:Int)≤k:=by omega
 have ik0:¬(k:Int)<0:=by omega
 clear B0 hc hk hp hn;generalize hf:c.fs.x k=f at *;clear hf;go_enter Tryz.func13,Tryz.ntmps13
 go_upto_region 1 with fail
 generalize w.alloc (.cells c.cs.toArray 28)=u1 at *;have c2:∀x:Gr u1,x.w.cell? ⟨w.heap.size,2,none⟩=some (.slice (some ⟨c.fs.b,c.fs.o,none⟩) c.fs.len c.fs.cap):=fun x=>by rw[←HNI.out];exact x.cell (H1.out.b.cell 2 rfl)
 have f14:∀x:Gr u1,x.w.cell? ⟨c.fs.b,c.fs.o+k*18+14,none⟩=some (.slice f.cd.ao f.cd.len f.cd.cap):=fun x=>zaf (zaf HR.out H1.out.bl) x.bl 14 _ rfl;have f16:∀x:Gr u1,x.w.cell? ⟨c.fs.b,c.fs.o+k*18+16,none⟩=some (.slice f.pt.ao f.cd.len f.pt.cap):=fun x=>by rw[←HPP.out];exact zaf (zaf HR.out H1.out.bl) x.bl 16 _ rfl
 have hNE:Nonempty (Gr u1):=⟨⟨_,Below.refl _ _⟩⟩;refine zah (by kernel_rfl) (by kernel_rfl) ?_;iterate 26 go_big_quiet_step (fail)
 refine wpQuiet_nil ?_;rintro y1 ⟨xg,rfl⟩;have Bg:=xg.bl;generalize xg.w=y1 at Bg ⊢;have H2:=hyd (H1.out.kept Bg);clear xg Bg c2 f14 f16 hNE H1;have c2:y1.cell? ⟨w.heap.size,2,none⟩=some (.slice (some ⟨c.fs.b,c.fs.o,none⟩) c.fs.len c.fs.cap):=by rw[←HNI.out];exact H2.out.b.cell 2 rfl
 have f14:y1.cell? ⟨c.fs.b,c.fs.o+k*18+14,none⟩=some (.slice f.cd.ao f.cd.len f.cd.cap):=zaf HR.out H2.out.bl 14 _ rfl;go_upto_region 4 with (refine zfu rfl (.tmp 40) (.tmp 40) 34 rfl 4 (.bool false) 1 rfl (by kernel_rfl) rfl f.cd.len (by kernel_rfl) (by kernel_rfl) (by have:=HN.out;omega) (by have:=HN.out;omega) ?_;intro w3 hB hb)
 have H3:=hyd (show Cx w c w.heap.size w3∧Blk w3 y1.heap.size (bcR f 0 f.cd.len) 4∧w.heap.size<y1.heap.size from ⟨H2.out.kept hb,by rw[zwf];exact hB,H2.out.b.lt⟩)
 clear c2 f14 hB hb H2;generalize y1.heap.size=BC at *;have c2:w3.cell? ⟨w.heap.size,2,none⟩=some (.slice (some ⟨c.fs.b,c.fs.o,none⟩) c.fs.len c.fs.cap):=by rw[←HNI.out];exact H3.out.1.b.cell 2 rfl
 have f14:w3.cell? ⟨c.fs.b,c.fs.o+k*18+14,none⟩=some (.slice f.cd.ao f.cd.len f.cd.cap):=zaf HR.out H3.out.1.bl 14 _ rfl;go_wp2;go_loopw [49] (fun i wr=>∃(j:Nat),j≤f.cd.len∧i=.int .i64 j∧Cx w c w.heap.size wr∧Blk wr BC (bcR f j f.cd.len) 4) (fun i _=>f.cd.len - (intOf i).toNat)
 case atStart=>exact⟨0,Nat.zero_le _,rfl,H3.out.1,H3.out.2.1⟩
 case round =>
  have HBC:=hyd H3.out.2.2;clear c2 f14 H3;obtain⟨j,hj,rfl,hB,hK⟩:=hrel;have HB:=hyd (show Cx w c w.heap.size wr∧Blk wr BC (bcR f j f.cd.len) 4 from ⟨hB,hK⟩);clear hB hK;by_cases hlt:j<f.cd.len
  ·have ij:(j:Int)<f.cd.len:=by omega
   have hbd2:f.cd.len≤9223372036854775807:=by have:=HN.out;omega
   have HJ:=hyd hlt;have r0:=zaf (HF.out.cd.row j hlt) HB.out.1.bl;have HC0:=hyd (@zui f j);have HC1:=hyd (@zq4 f j);have HST:=hyd (HF.out.pt.each j (by rw[HPP.out];exact hlt)).st
   have HP0:=hyd (HF.out.pt.row j (by rw[HPP.out];exact hlt))
   have HPN:=hyd (HF.out.pt.nil (by rw[HPP.out];omega))
   rw[HF.out.cd.nil (by omega)];clear hlt;generalize f.cd.x j=x at *;generalize f.pt.x j=pt at *;go_upto_region 7 with (first | (refine wpList_load_mid rfl 50 (.tmp 52) rfl f.cd.b (f.cd.o+j*7) (by kernel_rfl) x.vs _ r0 Tryz.underlying50 rfl (by kernel_rfl) ?_) | (refine zep rfl rfl rfl 50 rfl (.tmp 51) rfl (.tmp 7) (.tmp 53) rfl zfm (zem _) rfl (.int .i64 j) (by kernel_rfl) x.vs.toArray (by kernel_rfl) (by kernel_rfl) rfl (by kernel_rfl) (by simpa using x.vs_one) ?_))
   try simp only[Act.put,zA,zB,zC]
   have BA:=zac wr (.cells x.vs.toArray 50);have H4:=hyd (show (Cx w c w.heap.size (wr.alloc (.cells x.vs.toArray 50))∧Blk (wr.alloc (.cells x.vs.toArray 50)) BC (bcR f j f.cd.len) 4)∧Blk (wr.alloc (.cells x.vs.toArray 50)) wr.heap.size x.vs 50 from ⟨⟨HB.out.1.kept BA,HB.out.2.kept BA⟩,Blk.new wr _ _⟩);clear BA HB r0;generalize wr.alloc (.cells x.vs.toArray 50)=u4 at *;generalize wr.heap.size=B7 at *;have d0:u4.cell? ⟨B7,0,none⟩=some (.int .i64 x.op):=H4.out.2.cell 0 rfl;by_cases ho:x.op=19
   ·have HE:=hyd (HC1.out ho);have e1:(x.op==19)=true:=by simpa using ho
    have c2:u4.cell? ⟨w.heap.size,2,none⟩=some (.slice (some ⟨c.fs.b,c.fs.o,none⟩) c.fs.len c.fs.cap):=by rw[←HNI.out];exact H4.out.1.1.b.cell 2 rfl
    have f16:u4.cell? ⟨c.fs.b,c.fs.o+k*18+16,none⟩=some (.slice (some ⟨f.pt.b,f.pt.o,none⟩) f.cd.len f.pt.cap):=by rw[←HPP.out,←HPN.out];exact zaf HR.out H4.out.1.1.bl 16 _ rfl
    have p0:u4.cell? ⟨f.pt.b,f.pt.o+j*3,none⟩=some (.slice pt.st.ao pt.st.len pt.st.cap):=zaf HP0.out H4.out.1.1.bl 0 _ rfl;have h0:=zu8 pt.st u4 (HST.out.kept H4.out.1.1.bl);clear HC0 HC1 ho;generalize mayB pt.st=bb at *;go_wp2_with fail
    refine h0.mono ?_;clear h0;rintro _ u5 ⟨rfl,hb⟩;have H5:=hyd (show (Cx w c w.heap.size u5∧Blk u5 BC (bcR f j f.cd.len) 4) from ⟨H4.out.1.1.kept hb,H4.out.1.2.kept hb⟩);clear hb c2 f16 p0 d0 H4;go_simp;iterate 7 (first | go_values | go_skip | go_guarded | go_step | go_upon)
    refine zbf rfl 4 (.tmp 72) (.tmp 71) rfl rfl BC j (.bool bb) _ _ (by kernel_rfl) (by kernel_rfl) (zaw _ _ (by kernel_rfl) rfl rfl _ _) H5.out.2 (by rw[zoq];exact HJ.out) ?_
    intro u6 W;have H6:=hyd (show Cx w c w.heap.size u6∧Blk u6 BC (bcR f (j+1) f.cd.len) 4 from ⟨⟨W.below (by have:=HBC.out;omega) H5.out.1.bl,W.keep H5.out.1.b (by have:=HBC.out;omega)⟩,by rw[←zo5 f j f.cd.len HE.out.symm];exact W.blk⟩)
    clear W H5 HE;iterate 14 (first | go_values | go_skip | go_guarded | go_step | go_upon)
    go_roundw
    case rel=>exact⟨j+1,by have:=HJ.out;omega,by go_num,H6.out.1,H6.out.2⟩
    case measure=>simp[intOf];omega
   ·have HE:=hyd (HC0.out ho);have e1:(x.op==19)=false:=by simpa using ho
    clear HC0 HC1 ho;iterate 26 (first | go_values | go_skip | go_guarded | go_step | go_upon)
    refine zbf rfl 4 (.tmp 72) (.tmp 71) rfl rfl BC j (.bool false) _ _ (by kernel_rfl) (by kernel_rfl) (zaw _ _ (by kernel_rfl) rfl rfl _ _) H4.out.1.2 (by rw[zoq];exact HJ.out) ?_
    intro u6 W;have H6:=hyd (show Cx w c w.heap.size u6∧Blk u6 BC (bcR f (j+1) f.cd.len) 4 from ⟨⟨W.below (by have:=HBC.out;omega) H4.out.1.1.bl,W.keep H4.out.1.1.b (by have:=HBC.out;omega)⟩,by rw[←zo5 f j f.cd.len HE.out.symm];exact W.blk⟩)
    clear W H4 HE d0 e1;iterate 14 (first | go_values | go_skip | go_guarded | go_step | go_upon)
    go_roundw
    case rel=>exact⟨j+1,by have:=HJ.out;omega,by go_num,H6.out.1,H6.out.2⟩
    case measure=>simp[intOf];omega
  ·have ij:¬(j:Int)<f.cd.len:=by omega
   have ej:j=f.cd.len:=by omega
   have HX:=hyd (show Below w.heap.size w wr∧Blk wr BC (bcR f f.cd.len f.cd.len) 4 from ⟨HB.out.1.bl,by have:=HB.out.2;rw[ej] at this;exact this⟩)
   clear ej HB;go_wp2;go_ret;exact⟨BC,rfl,⟨HX.out.2,by have:=HBC.out;omega⟩,HX.out.1⟩
end
end Go.Proofs.YtfobijdkoeifjaaGreatDoor
