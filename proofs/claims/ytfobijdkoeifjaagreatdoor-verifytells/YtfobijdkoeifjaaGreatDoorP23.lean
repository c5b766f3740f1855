import Derived.Test.YtfobijdkoeifjaaGreatDoorP19
import Derived.Test.YtfobijdkoeifjaaGreatDoorP14
import Derived.Deep.DeepCutAuto
import Derived.Test.YtfobijdkoeifjaaGreatDoorP9
import Derived.Deep.QuietTactic
import Derived.BigQuiet
import Derived.Laws.CopyOwn
import Derived.Laws.OwnMore
import Derived.Deep.LoopGhost
import Derived.Deep.CutBlock
import Derived.Test.YtfobijdkoeifjaaGreatDoorP12
set_option maxRecDepth 100000
set_option maxHeartbeats 32000000
namespace Go.Proofs.YtfobijdkoeifjaaGreatDoor
section
open Go Go.RowKit
structure Fb (w0:World)(f:Cf)(B:Nat)(w:World):Prop where
 bl:Below w0.heap.size w0 w
 b:Blk w B f.vs 44
theorem Fb.kept {w0:World}{f:Cf}{B:Nat}{w w':World}(h:Fb w0 f B w)(hb:Below w.heap.size w w'):Fb w0 f B w':=⟨Below.next h.bl hb,h.b.kept hb⟩
theorem Fb.grown {w0:World}{f:Cf}{B:Nat}{w w':World}{r:Option Nat}(h:Fb w0 f B w)(hg:w.grownBy w' r)(hr:∀k,r=some k→w0.heap.size≤k∧k≠B):Fb w0 f B w' :=
 ⟨zce h.bl hg (fun k hk=>(hr k hk).1),by unfold Blk;rw[hg.block B h.b.lt (fun e=>(hr B e.symm).2 rfl)];exact h.b⟩
theorem Fb.new (w:World)(f:Cf):Fb w f w.heap.size (w.alloc (.cells f.vs.toArray 44)):=⟨zac w _,Blk.new w f.vs 44⟩
structure Wv (w0:World)(f:Cf)(v:Value)(l:List Int)(w:World):Prop where
 x:Fb w0 f w0.heap.size w
 o:Oi w (w0.heap.size+1) v l
theorem Wv.kept {w0:World}{f:Cf}{v:Value}{l:List Int}{w w':World}(h:Wv w0 f v l w)(hb:Below w.heap.size w w'):Wv w0 f v l w':=⟨h.x.kept hb,h.o.kept hb⟩
theorem Wv.size {w0:World}{f:Cf}{v:Value}{l:List Int}{w:World}(h:Wv w0 f v l w):w0.heap.size+1≤w.heap.size:=h.x.b.lt
theorem Wv.tw_ {w0:World}{f:Cf}{v v':Value}{l l':List Int}{w w':World}(h:Wv w0 f v l w)(ho:Oi w' (w0.heap.size+1) v' l')(hg:w.grownBy w' v.ownBlock):Wv w0 f v' l' w' :=
 ⟨h.x.grown hg (fun k hk=>by have:=(owb h.o hk).1;omega),ho⟩
theorem zgc {w:World}{base b':Nat}{v:Value}{l:List Int}(h:Oi w base v l)(hb:b'≤base):Oi w b' v l:=by
 obtain⟨h0,h1 | ⟨g,cap,cur,h1,h2,h3⟩⟩:=h
 ·exact⟨h0,Or.inl h1⟩
 ·exact⟨h0,Or.inr ⟨g,cap,cur,h1,by omega,h3⟩⟩
theorem Cf.w1_t {f:Cf}{p:Nat}(h1:nxO (f.cd.x p).op=true)(h2:f.pl ((p:Int)+1)=true):f.w1 p=[(p:Int)+1]:=by
 unfold Cf.w1;rw[if_pos ⟨h1,by have:=Cf.pl_iff.1 h2;omega⟩]
theorem Cf.w1_f {f:Cf}{p:Nat}(h:nxO (f.cd.x p).op=false∨f.pl ((p:Int)+1)=false):f.w1 p=[]:=by
 unfold Cf.w1;rw[if_neg];rintro ⟨h1,h2⟩;rcases h with h | h
 ·rw[h] at h1;cases h1
 ·rw[Cf.pl_iff.2 ⟨by omega,by omega⟩] at h;cases h
theorem Cf.w3_t {f:Cf}{g:Rw Bool}{h:Int}{p:Nat}(h1:f.rs g p=true)(h2:f.pl h=true):f.w3 g h p=[h]:=by unfold Cf.w3;rw[if_pos ⟨h1,h2⟩]
theorem Cf.w3_f {f:Cf}{g:Rw Bool}{h:Int}{p:Nat}(k:f.rs g p=false∨f.pl h=false):f.w3 g h p=[]:=by
 unfold Cf.w3;rw[if_neg];rintro ⟨h1,h2⟩;rcases k with k | k
 ·rw[k] at h1;cases h1
 ·rw[k] at h2;cases h2
theorem Cf.w_len (f:Cf)(g:Rw Bool)(h:Int)(p:Nat):(f.w1 p).length≤1∧(f.w2 p).length≤1∧(f.w3 g h p).length≤1:=by
 unfold Cf.w1 Cf.w2 Cf.w3;refine⟨?_,?_,?_⟩ <;> split <;> simp
theorem zml (f:Cf)(g:Rw Bool)(p:Nat)(h:Int)(w:World)(hf:f.At w)(hg:BlAt w g)(hp:p<f.cd.len):Calls Tryz.prog 85 #[.agg f.vs.toArray,.slice g.ao g.len g.cap,.int .i64 p,.int .i64 h] w fun e w'=>∃v,e=.returned v∧Oi w' w.heap.size v (f.wsH g h p)∧Below w.heap.size w w':=by
 have H1:Hid (Wv w f (.slice none 0 0) [] (w.alloc (.cells f.vs.toArray 44))):=⟨Fb.new w f,Oi.nil _ _⟩;have HD:=hyd (show f.At w∧BlAt w g∧p<f.cd.len from ⟨hf,hg,hp⟩);have HW:=hyd (f.wsH_eq g h p);have HLN:=hyd (f.w_len g h p);have hbd:=hf.cd.bound;have ip:(p:Int)<f.cd.len:=by omega
 have HN14:=hyd (hf.cd.nil (by omega));clear hf hg hp;generalize f.wsH g h p=R at *;generalize hw:w.alloc (.cells f.vs.toArray 44)=u1 at *;go_enter Tryz.func85,Tryz.ntmps85
 go_upto_region 2 with fail
 clear hw;go_cut [23] (fun c wx=>∃b:Bool,c=.bool b∧Hid (Wv w f (.slice none 0 0) [] wx)∧Hid (f.w1 p=if b=true then [(p:Int)+1] else []))
 case first =>
  have c14:=H1.out.x.b.cell 14 rfl;rw[HN14.out] at c14;have r0:=(Cf.At.kept H1.out.x.bl HD.out.1).cd.row p HD.out.2.2 0 _ rfl;simp only[Nat.add_zero] at r0;have HT:=hyd (fun h1 h2=>Cf.w1_t (f:=f) (p:=p) h1 h2);have HFf:=hyd (fun h=>Cf.w1_f (f:=f) (p:=p) h);generalize (f.cd.x p).op=op at *;have h0:=zpk op u1;generalize nxO op=nb at *;go_wp2_with fail
  refine h0.mono ?_;rintro _ u2 ⟨rfl,hb⟩;have H2:=hyd (H1.out.kept hb);clear h0 hb H1 c14 r0;cases nb
  ·go_wp2;go_meet
   case rel=>exact⟨false,rfl,H2.out,HFf.out (by simp)⟩
  ·have rF:=H2.out.x.b.range;have h0:=zc9 f ((p:Int)+1) u2;generalize f.pl ((p:Int)+1)=pb at *;go_wp2_with (refine zcp (by kernel_rfl) 44 (.tmp 4) rfl w.heap.size 0 (by kernel_rfl) f.vs _ rF Tryz.underlying44 rfl (by kernel_rfl) ?_)
   refine h0.mono ?_;rintro _ u3 ⟨rfl,hb⟩;have H3:=hyd (H2.out.kept hb);clear h0 hb H2 rF;cases pb
   ·go_wp2;go_meet
    case rel=>exact⟨false,rfl,H3.out,HFf.out (by simp)⟩
   ·go_wp2;go_meet
    case rel=>exact⟨true,rfl,H3.out,HT.out (by simp) (by simp)⟩
 case rest =>
 obtain⟨b,rfl,hV,hE⟩:=hcut;have H2:=hyd hV.out;have HE:=hyd hE.out;clear hV hE H1
 go_upto_if 23 with fail
 go_cut [9] (fun v wx=>Hid (Wv w f v (f.w1 p) wx))
 case first =>
  cases b
  ·have HE2:Hid (f.w1 p=[]):=HE.out;go_wp2;go_meet
   case rel=>rw[HE2.out];exact H2.out
  ·have HE2:Hid (f.w1 p=[(p:Int)+1]):=HE.out;clear HE;go_wp2_with ((at_builtin;refine zef rfl _ _ rfl (w.heap.size+1) (.slice none 0 0) [] ((p:Int)+1) rfl H2.out.o rfl (by simp) H2.out.size ?_;intro v6 w6 h6 g6;have H3:=hyd (H2.out.tw_ h6 g6);clear h6 g6 H2));go_meet
   case rel=>rw[HE2.out];exact H3.out
 case rest =>
 clear H2 HE;have H2:=hyd hcut.out;clear hcut;go_upto_region 4 with fail
 have rF:=H2.out.x.b.range;have h0:=zp9 f p wc (Cf.At.kept H2.out.x.bl HD.out.1) HD.out.2.2;have HT2:Hid (f.w2 p=if f.tg p=-1 then [] else [f.tg p]):=rfl;generalize f.tg p=tg at *;go_upto_region 5 with (refine wpList_load_mid rfl 44 (.tmp 4) rfl w.heap.size 0 (by kernel_rfl) f.vs _ rF Tryz.underlying44 rfl (by kernel_rfl) ?_)
 refine h0.mono ?_;rintro _ u3 ⟨rfl,hb⟩;have H3:=hyd (H2.out.kept hb);clear h0 hb H2 rF
 go_upto_if 33 with fail
 go_cut [9] (fun v wx=>Hid (Wv w f v (f.w1 p++f.w2 p) wx))
 case first =>
  by_cases ht:tg=-1
  ·have e1:(tg != -1)=false:=by simpa using ht
   have HE2:Hid (f.w1 p++f.w2 p=f.w1 p):=by show _=_;rw[HT2.out,if_pos ht,List.append_nil]
   clear ht;go_wp2;go_meet
   case rel=>rw[HE2.out];exact H3.out
  ·have e1:(tg != -1)=true:=by simpa using ht
   have HE2:Hid (f.w1 p++f.w2 p=f.w1 p++[tg]):=by show _=_;rw[HT2.out,if_neg ht]
   clear ht;go_wp2_with ((at_builtin;refine zef rfl _ _ rfl (w.heap.size+1) u9 (f.w1 p) tg rfl H3.out.o rfl (by have:=HLN.out;omega) H3.out.size ?_;intro v6 w6 h6 g6;have H4:=hyd (H3.out.tw_ h6 g6);clear h6 g6 H3));go_meet
   case rel=>rw[HE2.out];exact H4.out
 case rest =>
 clear H3;have H2:=hyd hcut.out;clear hcut HT2;go_upto_region 7 with fail
 go_cut [46] (fun c wx=>∃b:Bool,c=.bool b∧Hid (Wv w f u9 (f.w1 p++f.w2 p) wx)∧Hid (f.w3 g h p=if b=true then [h] else []))
 case first =>
  have rF:=H2.out.x.b.range;have HT:=hyd (fun h1 h2=>Cf.w3_t (f:=f) (g:=g) (h:=h) (p:=p) h1 h2);have HFf:=hyd (fun k=>Cf.w3_f (f:=f) (g:=g) (h:=h) (p:=p) k);have h0:=zgp f g p wc (Cf.At.kept H2.out.x.bl HD.out.1) (BlAt.kept HD.out.2.1 H2.out.x.bl) HD.out.2.2;generalize f.rs g p=nb at *;go_wp2_with (refine wpList_load_mid rfl 44 (.tmp 4) rfl w.heap.size 0 (by kernel_rfl) f.vs _ rF Tryz.underlying44 rfl (by kernel_rfl) ?_)
  refine h0.mono ?_;rintro _ u2 ⟨rfl,hb⟩;have H3:=hyd (H2.out.kept hb);clear h0 hb H2 rF;cases nb
  ·go_wp2;go_meet
   case rel=>exact⟨false,rfl,H3.out,HFf.out (by simp)⟩
  ·have rF:=H3.out.x.b.range;have h0:=zc9 f h u2;generalize f.pl h=pb at *;go_wp2_with (refine zcp (by kernel_rfl) 44 (.tmp 4) rfl w.heap.size 0 (by kernel_rfl) f.vs _ rF Tryz.underlying44 rfl (by kernel_rfl) ?_)
   refine h0.mono ?_;rintro _ u3 ⟨rfl,hb⟩;have H4:=hyd (H3.out.kept hb);clear h0 hb H3 rF;cases pb
   ·go_wp2;go_meet
    case rel=>exact⟨false,rfl,H4.out,HFf.out (by simp)⟩
   ·go_wp2;go_meet
    case rel=>exact⟨true,rfl,H4.out,HT.out (by simp) (by simp)⟩
 case rest =>
 obtain⟨b,rfl,hV,hE⟩:=hcut;clear H2;have H2:=hyd hV.out;have HE:=hyd hE.out;clear hV hE
 go_upto_if 46 with fail
 go_cut [9] (fun v wx=>Hid (Wv w f v (f.w1 p++f.w2 p++f.w3 g h p) wx))
 case first =>
  cases b
  ·have HE2:Hid (f.w1 p++f.w2 p++f.w3 g h p=f.w1 p++f.w2 p):=by show _=_;rw[HE.out];simp
   go_wp2;go_meet
   case rel=>rw[HE2.out];exact H2.out
  ·have HE2:Hid (f.w1 p++f.w2 p++f.w3 g h p=f.w1 p++f.w2 p++[h]):=by show _=_;rw[HE.out];simp
   clear HE;go_wp2_with ((at_builtin;refine zef rfl _ _ rfl (w.heap.size+1) u9 (f.w1 p++f.w2 p) h rfl H2.out.o rfl (by have:=HLN.out;rw[List.length_append];omega) H2.out.size ?_;intro v6 w6 h6 g6;have H4:=hyd (H2.out.tw_ h6 g6);clear h6 g6 H2));go_meet
   case rel=>rw[HE2.out];exact H4.out
 case rest =>
 clear H2 HE;have H2:=hyd hcut.out;clear hcut;have HLl:Hid ((f.w1 p++f.w2 p++f.w3 g h p).length≤1000000):=by show _≤_;have:=HLN.out;rw[List.length_append,List.length_append];omega
 generalize f.w1 p++f.w2 p++f.w3 g h p=L at *;have h0:=zv5 wc (w.heap.size+1) u9 L H2.out.o HLl.out;go_wp2_with fail
 refine h0.mono ?_;rintro _ u3 ⟨rfl,h6,g6⟩;have H3:=hyd (H2.out.tw_ h6 g6);clear h0 h6 g6 H2;have HLs:Hid ((L.mergeSort fun x y=>decide (x≤y)).length≤1000000):=by show _≤_;rw[List.length_mergeSort];exact HLl.out
 generalize (L.mergeSort fun x y=>decide (x≤y))=S at *;have h0:=zqe u3 (w.heap.size+1) u9 S H3.out.o HLs.out;go_wp2_with fail
 refine h0.mono ?_;rintro _ u4 ⟨v5,rfl,h6,g6⟩;have H4:=hyd (H3.out.tw_ h6 g6);clear h0 h6 g6 H3;rw[HW.out] at H4;go_wp2;go_ret;exact⟨_,rfl,(zgc H4.out.o (Nat.le_succ _)),H4.out.x.bl⟩
theorem zad {C:World→Prop}{K:Act→Prop}{a:Act}{o:Oper}(ty:TypeId)(x:Operand)(ho:o.op=.load ty x)(b oo:Nat)(hx:a.eval x=.pointer (some ⟨b,oo,none⟩))(cs:List Value)(d:TypeDesc)(hc:∀w,C w→w.rangeAt b oo cs)
  (hu:Tryz.prog.underlying ty=some d) (hd:d.isRow=true) (hi:(Tryz.prog.info? ty).map (·.size)=some cs.length) (h:K (a.put o.dst (.agg cs.toArray))):o.quiet Tryz.prog a C K:=by
 refine⟨.agg cs.toArray,fun w hC=>?_,h⟩;unfold Oper.quietAt execOp;simp only[ho,hx,Sem.run_bind,run_loadAt_mid w b oo ty cs d (hc w hC) hu hd hi,Result.andThen_ok,Sem.run_pure];exact⟨rfl,rfl⟩
theorem zm5 (f:Cf)(g:Rw Bool)(p:Nat)(w:World)(hf:f.At w)(hg:BlAt w g)(hp:p<f.cd.len):Calls Tryz.prog 42 #[.agg f.vs.toArray,.slice g.ao g.len g.cap,.int .i64 p] w fun e w'=>∃v,e=.returned v∧Oi w' w.heap.size v (f.ws g p)∧Below w.heap.size w w':=by
 have HWS:Hid (f.ws g p=f.wsH g (f.han p) p):=rfl;generalize f.ws g p=R at *;have H1:=hyd (Fb.new w f);have hpl:f.pl p=true:=Cf.pl_iff.2 ⟨by omega,by omega⟩;have HD:=hyd (show f.At w∧BlAt w g∧p<f.cd.len from ⟨hf,hg,hp⟩);have hbd:=hf.cd.bound;have ip:(p:Int)<f.cd.len:=by omega
 have HN14:=hyd (hf.cd.nil (by omega));clear hf hg hp;have h0:=zc9 f p (w.alloc (.cells f.vs.toArray 44));rw[hpl] at h0;have rF:=H1.out.b.range;generalize hw:w.alloc (.cells f.vs.toArray 44)=u1 at *;go_enter Tryz.func42,Tryz.ntmps42
 go_wp2_with (refine wpList_load_mid rfl 44 (.tmp 3) rfl w.heap.size 0 (by kernel_rfl) f.vs _ rF Tryz.underlying44 rfl (by kernel_rfl) ?_)
 refine h0.mono ?_;rintro _ u2 ⟨rfl,hb⟩;have H2:=hyd (H1.out.kept hb);clear h0 hb H1 rF hpl hw;go_upto_region 3 with fail
 have rF:=H2.out.b.range;have hh:∀x:Gr u2,Calls Tryz.prog 86 #[.agg f.vs.toArray,.int .i64 p] x.w fun e w'=>e=.returned (.int .i64 (f.han p))∧Below x.w.heap.size x.w w':=fun x=>zfx f p x.w (Cf.At.kept (Below.next H2.out.bl x.bl) HD.out.1) HD.out.2.2;generalize f.han p=hn at *;refine zat 6 (by kernel_rfl) (by kernel_rfl) ?_;simp only[List.take,List.drop];go_big_quiet_want;refine zad 44 (.tmp 3) rfl w.heap.size 0 (by kernel_rfl) f.vs _ (fun _ hC=>by obtain⟨x,rfl⟩:=hC;exact zaf rF (Gr.bl x)) Tryz.underlying44 rfl (by kernel_rfl) ?_
 simp only[Act.put,zA,zB,zC];go_big_quiet_on;iterate 2 go_big_quiet_step (fail)
 go_big_quiet_want;refine zad 44 (.tmp 3) rfl w.heap.size 0 (by kernel_rfl) f.vs _ (fun _ hC=>by obtain⟨x,rfl⟩:=hC;exact zaf rF (Gr.bl x)) Tryz.underlying44 rfl (by kernel_rfl) ?_
 simp only[Act.put,zA,zB,zC];go_big_quiet_on;go_big_quiet_step (fail)
 go_big_quiet_step ((go_at_call 86;exact Calls.gr _ (hh _)))
 refine wpQuiet_nil ?_;rintro y1 ⟨xg,rfl⟩;have Bg:=xg.bl;generalize xg.w=y1 at Bg ⊢;have H3:=hyd (H2.out.kept Bg);clear Bg xg H2 rF hh;have h0:=zml f g p hn y1 (Cf.At.kept H3.out.bl HD.out.1) (BlAt.kept HD.out.2.1 H3.out.bl) HD.out.2.2;go_wp2_with fail
 refine h0.mono ?_;rintro _ u4 ⟨v,rfl,hO,hb⟩;have H4:=hyd (show Below w.heap.size w u4∧Oi u4 w.heap.size v R from ⟨Below.next H3.out.bl hb,by rw[HWS.out];exact zgc hO H3.out.bl.size⟩)
 clear h0 hO hb H3;go_wp2;go_ret;exact⟨_,rfl,H4.out.2,H4.out.1⟩
theorem zp2 (f:Cf)(g:Rw Bool)(p:Nat)(w:World)(hf:f.At w)(hg:BlAt w g)(hp:p<f.cd.len):Calls Tryz.prog 44 #[.agg f.vs.toArray,.slice g.ao g.len g.cap,.int .i64 p] w fun e w'=>e=.returned (.bool (f.lv g p))∧Below w.heap.size w w':=by
 have HWS:Hid (f.lv g p=(decide ((f.cd.x p).op=27)||(f.rs g p&&decide (f.han p=-1)))):=rfl;generalize f.lv g p=R at *;have H1:=hyd (Fb.new w f);have hpl:f.pl p=true:=Cf.pl_iff.2 ⟨by omega,by omega⟩;have HD:=hyd (show f.At w∧BlAt w g∧p<f.cd.len from ⟨hf,hg,hp⟩);have hbd:=hf.cd.bound;have ip:(p:Int)<f.cd.len:=by omega
 have HN14:=hyd (hf.cd.nil (by omega));clear hf hg hp;have h0:=zc9 f p (w.alloc (.cells f.vs.toArray 44));rw[hpl] at h0;have rF:=H1.out.b.range;generalize hw:w.alloc (.cells f.vs.toArray 44)=u1 at *;go_enter Tryz.func44,Tryz.ntmps44
 go_wp2_with (refine wpList_load_mid rfl 44 (.tmp 3) rfl w.heap.size 0 (by kernel_rfl) f.vs _ rF Tryz.underlying44 rfl (by kernel_rfl) ?_)
 refine h0.mono ?_;rintro _ u2 ⟨rfl,hb⟩;have H2:=hyd (H1.out.kept hb);clear h0 hb H1 rF hpl hw;have c14:=H2.out.b.cell 14 rfl;rw[HN14.out] at c14;have r0:=(Cf.At.kept H2.out.bl HD.out.1).cd.row p HD.out.2.2 0 _ rfl;simp only[Nat.add_zero] at r0;have hr:=zgp f g p u2 (Cf.At.kept H2.out.bl HD.out.1) (BlAt.kept HD.out.2.1 H2.out.bl) HD.out.2.2;have hh:Hid (∀u,Below w.heap.size w u→Calls Tryz.prog 86 #[.agg f.vs.toArray,.int .i64 p] u fun e w'=>e=.returned (.int .i64 (f.han p))∧Below u.heap.size u w'):=fun u hb=>zfx f p u (Cf.At.kept hb HD.out.1) HD.out.2.2;generalize (f.cd.x p).op=op at *;generalize f.rs g p=rb at *;generalize f.han p=hn at *;by_cases o1:op=27
 ·subst o1;have HE:Hid (R=true):=HWS.out;go_wp2;go_ret;exact⟨zab HE.out.symm,H2.out.bl⟩
 have n1:(op==27)=false:=by simpa using o1
 have HW2:Hid (R=(rb&&decide (hn=-1))):=by show _=_;rw[HWS.out,decide_eq_false o1];rfl
 clear o1 HWS;have rF:=H2.out.b.range;go_wp2_with (refine zcp (by kernel_rfl) 44 (.tmp 3) rfl w.heap.size 0 (by kernel_rfl) f.vs _ rF Tryz.underlying44 rfl (by kernel_rfl) ?_)
 refine hr.mono ?_;rintro _ u3 ⟨rfl,hb⟩;have H3:=hyd (H2.out.kept hb);clear hr hb H2 rF r0 c14;cases rb
 ·have HE:Hid (R=false):=HW2.out;go_wp2;go_ret;exact⟨zab HE.out.symm,H3.out.bl⟩
 have rF:=H3.out.b.range;have h0:=hh.out u3 H3.out.bl;go_wp2_with (refine zcp (by kernel_rfl) 44 (.tmp 3) rfl w.heap.size 0 (by kernel_rfl) f.vs _ rF Tryz.underlying44 rfl (by kernel_rfl) ?_)
 refine h0.mono ?_;rintro _ u4 ⟨rfl,hb⟩;have H4:=hyd (H3.out.kept hb);clear h0 hb H3 rF;by_cases e:hn=-1
 ·have e1:(hn==-1)=true:=by simpa using e
  have HE:Hid (R=true):=by show _=_;rw[HW2.out,decide_eq_true e];rfl
  clear e;go_wp2;go_ret;exact⟨zab HE.out.symm,H4.out.bl⟩
 ·have e1:(hn==-1)=false:=by simpa using e
  have HE:Hid (R=false):=by show _=_;rw[HW2.out,decide_eq_false e];rfl
  clear e;go_wp2;go_ret;exact⟨zab HE.out.symm,H4.out.bl⟩
theorem zp5 {w:World}{base:Nat}{e:TypeId}{g n:Nat}{xs:List Value}(h:w.ownsRow base e 1 (.slice (some ⟨g,0,none⟩) n n) n xs):Blk w g xs e:=by
 obtain⟨h0,⟨h1,_⟩ | ⟨g',cap,cur,h1,_,h3,_,_,h6,h7⟩⟩:=h
 ·cases h1
 ·injection h1 with e1 _ e3
  injection e1 with e1
  injection e1 with e1
  subst e1;subst e3;unfold Blk;rw[h3]
  congr 2
  apply Array.toList_inj.1
  rw[←h7,List.take_of_length_le (by simp;omega)]
theorem zfu {w:World}{ops:Array Oper}{rest:List Oper}{o:Oper}{a:Act}{Q:Exit→Act→World→Prop}
  (hg:o.guard=none) (l c:Operand) (t:TypeId) (hop:o.op=Op.makeSlice t l c) (e:TypeId) (z:Value) (bytes:Nat) (h1:Tryz.prog.underlying t=some (.slice e)) (hinf:(Tryz.prog.info? e).map (fun i=>(i.zero,i.size,i.bytes))=some (some z,1,bytes)) (hz:z.cells=#[z])
  (n:Nat) (hl:a.eval l=.int .i64 (n:Int)) (hc:a.eval c=.int .i64 (n:Int)) (b2:bytes*n≤281474976710656) (b3:n≤1000000000)
  (hK:∀w',Blk w' w.heap.size (List.replicate n z) e→Below w.heap.size w w'→wpList Tryz.prog ops Q rest (a.put o.dst (.slice (some ⟨w.heap.size,0,none⟩) n n)) w') :
  wpList Tryz.prog ops Q (o :: rest) a w:=by
 obtain⟨i0,hi,hz0,hz1,hz2⟩:=info_parts hinf;refine wpList_make_full w hg l c t hop w.heap.size e i0 z 1 h1 hi hz0 hz1 .i64 .i64 n n n hl hc rfl rfl (by rw[hz2];exact b2) (by unfold maxLen;omega) (Nat.le_refl _) ?_
 intro w' ho hgr;refine hK w' ?_ (zce (Below.refl _ _) hgr (fun k hk=>by cases hk));have:=zp5 ho;rw[hz,Nat.mul_one,toList_madeCells_one] at this;exact this
theorem WroteB.gb {w w':World}{B:Nat}{c:List Value}{t:TypeId}(h:WroteB w w' B c t):w.grownBy w' (some B):=by
 have hb:=h.below (Nat.le_refl B) (Below.refl B w);exact⟨hb.os,hb.tape,hb.output,Nat.le_of_eq h.size.symm,fun k _ hne=>h.other k (fun e=>hne (by rw[e]))⟩
theorem Blk.gb {w w':World}{B:Nat}{c:List Value}{t:TypeId}{r:Option Nat}(h:Blk w B c t)(hg:w.grownBy w' r)(hne:some B≠r):Blk w' B c t:=by
 unfold Blk;rw[hg.block B h.lt hne];exact h
def bvL (m:Nat→Bool)(n:Nat):List Value:=(List.range n).map fun i=>.bool (m i)
theorem zd9 (a:Nat→Bool)(n:Nat):(bvL a n).length=n:=by simp[bvL]
theorem zd8 (a:Nat→Bool){n i:Nat}(h:i<n):(bvL a n)[i]?=some (.bool (a i)):=by simp[bvL,h]
def updB (a:Nat→Bool)(k:Nat):Nat→Bool:=fun i=>if i=k then true else a i
theorem zwj (a:Nat→Bool)(n k:Nat):(bvL a n).set k (.bool true)=bvL (updB a k) n:=by
 apply List.ext_getElem?
 intro i;rw[List.getElem?_set];by_cases e:k=i
 ·subst e;rw[if_pos rfl];by_cases h:k<n
  ·rw[zd9,if_pos h,zd8 _ h];simp[updB]
  ·rw[zd9,if_neg h,List.getElem?_eq_none (by rw[zd9];omega)]
 ·rw[if_neg e];by_cases h:i<n
  ·rw[zd8 _ h,zd8 _ h];simp[updB,show ¬i=k from fun h=>e h.symm]
  ·rw[List.getElem?_eq_none (by rw[zd9];omega),List.getElem?_eq_none (by rw[zd9];omega)]
theorem zwg (n:Nat):List.replicate n (Value.bool false)=bvL (fun _=>false) n:=by
 apply List.ext_getElem?
 intro i;by_cases h:i<n
 ·rw[zd8 _ h,List.getElem?_replicate,if_pos h]
 ·rw[List.getElem?_eq_none (by simp;omega),List.getElem?_eq_none (by rw[zd9];omega)]
def trM (m:Nat→Bool)(n:Nat):List Int:=((List.range n).filter m).map fun q:Nat=>(q:Int)
theorem zu0 (m:Nat→Bool)(n:Nat):trM m (n+1)=trM m n++(if m n=true then [(n:Int)] else []):=by
 unfold trM;rw[List.range_succ,List.filter_append,List.map_append];cases h:m n <;> simp[h]
theorem zkn (m:Nat→Bool)(n:Nat):(trM m n).length≤n:=by
 unfold trM;rw[List.length_map];exact Nat.le_trans (List.length_filter_le _ _) (by simp)
theorem zwa (n:Nat)(P:Nat→Prop):(Fl.lst n P).length≤n:=by
 unfold Fl.lst;exact Nat.le_trans (List.length_filter_le _ _) (by simp)
theorem zpv {n:Nat}{P:Nat→Prop}(hn:n≤100000):(∀a ∈ (Fl.lst n P).map (fun q:Nat=>(q:Int)),I64 a)∧((Fl.lst n P).map (fun q:Nat=>(q:Int))).length≤9223372036854775807:=by
 refine⟨fun a ha=>?_,?_⟩
 ·obtain⟨q,rfl,hq,_⟩:=ziz.1 ha;exact⟨by omega,by omega⟩
 ·rw[List.length_map];have:=zwa n P;omega
theorem zfa {f:Cf}{g:Rw Bool}{p:Nat}{a:Int}:a ∈ f.ws g p↔∃q:Nat,a=q∧f.way g p q:=by
 unfold Cf.ws Cf.wsH;rw[ziz]
 constructor
 ·rintro ⟨q,e,_,k⟩;exact⟨q,e,k⟩
 ·rintro ⟨q,e,k⟩;exact⟨q,e,k.1,k⟩
def Cf.wy (f:Cf)(g:Rw Bool)(p q:Nat):Prop:=p<f.cd.len∧f.way g p q
noncomputable def Cf.wsI (f:Cf) (g:Rw Bool) (a:Int):List Int:=if f.pl a=true then f.ws g a.toNat else []
def Cf.lvI (f:Cf)(g:Rw Bool)(a:Int):Bool:=f.pl a&&f.lv g a.toNat
def Cf.wit (f:Cf)(g:Rw Bool)(x:Rn)(a:Int):Prop:=∀b ∈ f.wsI g a,b=x.join∨b ∈ x.ps.ls
noncomputable def Cf.hold (f:Cf) (g:Rw Bool) (x:Rn):Int:=open Classical in
 if f.pl x.at_=false∨(x.join≠-1∧f.pl x.join=false) then -1
 else if ¬f.wit g x x.at_ then 1
 else if ∃i,i<x.ps.len∧¬f.wit g x (x.ps.x i) then 2
 else if x.join=-1 then 0
 else if f.lvI g x.at_=true∨∃i,i<x.ps.len∧f.lvI g (x.ps.x i)=true then 3 else 0
theorem Oi.read {w:World}{base n:Nat}{v:Value}{P:Nat→Prop}(h:Oi w base v ((Fl.lst n P).map fun q:Nat=>(q:Int)))(hn:n≤100000):∃r:Rw Int,v=.slice r.ao r.len r.cap∧NmAt w r∧r.ls=(Fl.lst n P).map (fun q:Nat=>(q:Int))∧base≤r.b:=by
 have hs:=zpv (n:=n) (P:=P) hn;obtain⟨r,h1,h2,h3,_,h5⟩:=h.rw hs.1 hs.2;exact⟨r,h1,h2,h3,h5⟩
theorem Oi.readW {w:World}{base:Nat}{v:Value}{f:Cf}{g:Rw Bool}{p:Nat}(h:Oi w base v (f.ws g p))(hn:f.cd.len≤100000):∃s:Rw Int,v=.slice s.ao s.len s.cap∧NmAt w s∧s.ls=f.ws g p:=by
 unfold Cf.ws Cf.wsH at *;obtain⟨s,h1,h2,h3,_⟩:=h.read hn;exact⟨s,h1,h2,h3⟩
theorem zsn {f:Cf}{g:Rw Bool}{p:Nat}(hp:p<f.cd.len):f.wsI g p=f.ws g p:=by
 unfold Cf.wsI;rw[if_pos (Cf.pl_iff.2 ⟨by omega,by omega⟩),Int.toNat_natCast]
theorem zhy {f:Cf}{g:Rw Bool}{p:Nat}(hp:p<f.cd.len):f.lvI g p=f.lv g p:=by
 unfold Cf.lvI;rw[Cf.pl_iff.2 ⟨by omega,by omega⟩,Int.toNat_natCast];rfl
theorem zst {f:Cf}{g:Rw Bool}{x:Rn}{p:Nat}(hp:p<f.cd.len):f.wit g x p↔∀q:Nat,f.wy g p q→(q:Int)=x.join∨(q:Int) ∈ x.ps.ls:=by
 unfold Cf.wit;rw[zsn hp]
 constructor
 ·intro h q hq;exact h q (zfa.2 ⟨q,rfl,hq.2⟩)
 ·intro h b hb;obtain⟨q,rfl,hq⟩:=zfa.1 hb;exact h q ⟨hp,hq⟩
structure Ln (f:Cf)(g:Rw Bool)(l:Cf):Prop where
 cd:l.cd=f.cd
 han:∀p:Nat,p<f.cd.len→f.rs g p=true→l.han p=f.han p
theorem Ln.rs {f l:Cf}{g:Rw Bool}(h:Ln f g l)(p:Nat):l.rs g p=f.rs g p:=by unfold Cf.rs;rw[h.cd]
theorem Ln.lv {f l:Cf}{g:Rw Bool}(h:Ln f g l){p:Nat}(hp:p<f.cd.len):l.lv g p=f.lv g p:=by
 unfold Cf.lv;rw[h.cd,h.rs];cases e:f.rs g p
 ·rfl
 ·rw[h.han p hp e]
theorem Ln.way {f l:Cf}{g:Rw Bool}(h:Ln f g l){p:Nat}(hp:p<f.cd.len):l.way g p=f.way g p:=by
 funext q;apply propext
 unfold Cf.way Cf.wayH;rw[h.cd,h.rs];cases e:f.rs g p
 ·simp
 ·rw[h.han p hp e]
theorem Ln.ws {f l:Cf}{g:Rw Bool}(h:Ln f g l){p:Nat}(hp:p<f.cd.len):l.ws g p=f.ws g p:=by
 have e:l.wayH g (l.han p) p=f.wayH g (f.han p) p:=h.way hp;unfold Cf.ws Cf.wsH;rw[e,h.cd]
def hitH (h:Hn)(p:Int):Bool:=decide (h.fr≤p)&&decide (p<h.tw_)
def fndH (F:Nat→Hn)(m:Nat)(p:Int):Option Int:=((List.range m).find? fun i=>hitH (F i) p).map fun i=>(F i).at_
theorem zry (F:Nat→Hn)(p:Int):fndH F 0 p=none:=rfl
theorem fndH_succ (F:Nat→Hn)(m:Nat)(p:Int):fndH F (m+1) p=match fndH F m p with | some a=>some a | none=>if hitH (F m) p=true then some (F m).at_ else none:=by
 unfold fndH;rw[List.range_succ,List.find?_append];cases (List.range m).find? fun i=>hitH (F i) p with
 | some i=>rfl
 | none =>
  simp only[Option.none_or,Option.map_none];cases hh:hitH (F m) p <;> simp[hh]
theorem han_fnd (f:Cf)(p:Int):f.han p=(fndH f.hd.x f.hd.len p).getD (-1):=by
 unfold Cf.han fndH;show (match (List.range f.hd.len).find? (fun i=>hitH (f.hd.x i) p) with | some i=>(f.hd.x i).at_ | none=>-1)=_
 cases (List.range f.hd.len).find? (fun i=>hitH (f.hd.x i) p) <;> rfl
def updH (F:Nat→Hn)(m:Nat)(h:Hn):Nat→Hn:=fun i=>if i<m then F i else h
theorem zmd (F:Nat→Hn)(m:Nat)(h:Hn)(p:Int):∀k,k≤m→fndH (updH F m h) k p=fndH F k p
 | 0,_=>rfl
 | k+1,hk=>by
  rw[fndH_succ,fndH_succ,zmd F m h p k (by omega)];have:updH F m h k=F k:=by unfold updH;rw[if_pos (by omega)]
  rw[this]
def LnI (f:Cf)(g:Rw Bool)(i m:Nat)(F:Nat→Hn):Prop:=∀p:Nat,p<f.cd.len→f.rs g p=true→fndH F m p=fndH f.hd.x i p
theorem LnI.start (f:Cf)(g:Rw Bool)(F:Nat→Hn):LnI f g 0 0 F:=fun _ _ _=>rfl
theorem LnI.keep {f:Cf}{g:Rw Bool}{i m:Nat}{F:Nat→Hn}(h:LnI f g i m F):LnI f g (i+1) (m+1) (updH F m (f.hd.x i)):=fun p hp hr=>by
 rw[fndH_succ,fndH_succ,zmd F m _ _ m (Nat.le_refl _),h p hp hr];have:updH F m (f.hd.x i) m=f.hd.x i:=by unfold updH;rw[if_neg (by omega)]
 rw[this]
def Cf.opn (f:Cf)(g:Rw Bool)(i:Nat)(p:Nat):Bool:=f.rs g p&&(fndH f.hd.x i p).isNone
theorem zuu (f:Cf)(g:Rw Bool):f.opn g 0=f.rs g:=by funext p;unfold Cf.opn;rw[zry];simp
theorem zme (f:Cf)(g:Rw Bool)(i p:Nat):f.opn g (i+1) p=(f.opn g i p&&!hitH (f.hd.x i) p):=by
 unfold Cf.opn;rw[fndH_succ];cases fndH f.hd.x i p with
 | some a=>simp
 | none=>cases hitH (f.hd.x i) p <;> simp
theorem LnI.skip {f:Cf}{g:Rw Bool}{i m:Nat}{F:Nat→Hn}(h:LnI f g i m F)(hn:∀p:Nat,p<f.cd.len→f.opn g i p=true→hitH (f.hd.x i) p=false):LnI f g (i+1) m F:=fun p hp hr=>by
 rw[h p hp hr,fndH_succ];cases e:fndH f.hd.x i p with
 | some a=>rfl
 | none =>
  have:=hn p hp (by unfold Cf.opn;rw[hr,e];rfl)
  simp[this]
theorem LnI.done {f l:Cf}{g:Rw Bool}{m:Nat}{F:Nat→Hn}(h:LnI f g f.hd.len m F)(hcd:l.cd=f.cd)(hm:l.hd.len=m)(hx:l.hd.x=F):Ln f g l:=⟨hcd,fun p hp hr=>by rw[han_fnd,han_fnd,hm,hx,h p hp hr]⟩
theorem zmf (x:Int):∀l:List Int,l.Pairwise (·<·)→l.take (l.countP fun a=>decide (a<x))=l.filter fun a=>decide (a<x)
 | [],_=>rfl
 | a :: l,h=>by
  rw[List.pairwise_cons] at h;by_cases c:a<x
  ·rw[List.countP_cons_of_pos (by simpa using c),List.take_succ_cons,zmf x l h.2,List.filter_cons_of_pos (by simpa using c)]
  ·have h0:l.countP (fun a=>decide (a<x))=0:=by
    rw[List.countP_eq_zero];intro b hb;have:=h.1 b hb;simp;omega
   have h1:l.filter (fun a=>decide (a<x))=[]:=by
    rw[List.filter_eq_nil_iff];intro b hb;have:=h.1 b hb;simp;omega
   rw[List.countP_cons_of_neg (by simpa using c),h0,List.filter_cons_of_neg (by simpa using c),h1];rfl
theorem zno (x:Int):∀l:List Int,l.Pairwise (·<·)→l.drop (l.countP fun a=>decide (a<x))=l.filter fun a=>decide (x≤a)
 | [],_=>rfl
 | a :: l,h=>by
  rw[List.pairwise_cons] at h;by_cases c:a<x
  ·rw[List.countP_cons_of_pos (by simpa using c),List.drop_succ_cons,zno x l h.2,List.filter_cons_of_neg (by simp;omega)]
  ·have h0:l.countP (fun a=>decide (a<x))=0:=by
    rw[List.countP_eq_zero];intro b hb;have:=h.1 b hb;simp;omega
   have h1:(a :: l).filter (fun a=>decide (x≤a))=a :: l:=by
    rw[List.filter_eq_self];intro b hb;rcases List.mem_cons.1 hb with e | e
    ·simp;omega
    ·have:=h.1 b e;simp;omega
   rw[List.countP_cons_of_neg (by simpa using c),h0,h1];rfl
theorem zmz {x y:Int}(hxy:x≤y):∀l:List Int,l.Pairwise (·<·)→(l.filter fun a=>decide (a<x))++(l.filter fun a=>decide (y≤a))=l.filter fun a=>!(decide (x≤a)&&decide (a<y))
 | [],_=>rfl
 | a :: l,h=>by
  rw[List.pairwise_cons] at h;have ih:=zmz hxy l h.2;by_cases c:a<x
  ·rw[List.filter_cons_of_pos (by simpa using c),List.filter_cons_of_neg (by simp;omega),List.filter_cons_of_pos (by simp;omega),←ih]
   rfl
  ·have h1:l.filter (fun a=>decide (a<x))=[]:=by
    rw[List.filter_eq_nil_iff];intro b hb;have:=h.1 b hb;simp;omega
   rw[h1,List.nil_append] at ih;rw[List.filter_cons_of_neg (by simpa using c),h1,List.nil_append];by_cases d:a<y
   ·rw[List.filter_cons_of_neg (by simp;omega),List.filter_cons_of_neg (by simp;omega),ih]
   ·rw[List.filter_cons_of_pos (by simp;omega),List.filter_cons_of_pos (by simp;omega),ih]
theorem zmx {x y:Int}(hxy:x≤y)(l:List Int):(l.countP fun a=>decide (a<x))≤l.countP fun a=>decide (a<y):=List.countP_mono_left (fun a _ h=>by simp at h ⊢;omega)
theorem zkm {x y:Int}:∀l:List Int,¬(l.countP fun a=>decide (a<x))<(l.countP fun a=>decide (a<y))→∀a ∈ l,(decide (x≤a)&&decide (a<y))=false
 | [],_,_,h=>by cases h
 | b :: l,hn,a,ha=>by
  rcases Int.lt_or_le x y with hxy | hxy
  ·have hm:=zmx (Int.le_of_lt hxy) l;by_cases c:b<x
   ·rw[List.countP_cons_of_pos (by simpa using c),List.countP_cons_of_pos (by simp;omega)] at hn
    rcases List.mem_cons.1 ha with e | e
    ·subst e;simp;omega
    ·exact zkm l (by omega) a e
   ·rw[List.countP_cons_of_neg (by simpa using c)] at hn;by_cases d:b<y
    ·rw[List.countP_cons_of_pos (by simpa using d)] at hn;omega
    ·rw[List.countP_cons_of_neg (by simpa using d)] at hn;rcases List.mem_cons.1 ha with e | e
     ·subst e;simp;omega
     ·exact zkm l hn a e
  ·simp;omega
theorem cnt_lt {x y:Int}{l:List Int}(h:(l.countP fun a=>decide (a<x))<(l.countP fun a=>decide (a<y))):x≤y:=by
 rcases Int.lt_or_le y x with e | e
 ·have:=zmx (Int.le_of_lt e) l;omega
 ·exact e
theorem zdw (m:Nat→Bool)(n:Nat):(trM m n).Pairwise (·<·):=by
 unfold trM;rw[List.pairwise_map];exact (List.Pairwise.filter _ List.pairwise_lt_range).imp (by intro a b h;omega)
theorem zpo (m:Nat→Bool)(n:Nat)(q:Int→Bool):(trM m n).filter q=trM (fun p=>m p&&q p) n:=by
 unfold trM;rw[List.filter_map,List.filter_filter]
 congr 1
 apply List.filter_congr
 intro p _;simp[Bool.and_comm]
theorem zwp {m:Nat→Bool}{n:Nat}{a:Int}:a ∈ trM m n↔∃p:Nat,a=p∧p<n∧m p=true:=by
 unfold trM;rw[List.mem_map]
 constructor
 ·rintro ⟨p,hp,rfl⟩;rw[List.mem_filter,List.mem_range] at hp;exact⟨p,rfl,hp⟩
 ·rintro ⟨p,rfl,h1,h2⟩;exact⟨p,List.mem_filter.2 ⟨List.mem_range.2 h1,h2⟩,rfl⟩
theorem zwv {f:Cf}{g:Rw Bool}{i:Nat}(h:((trM (f.opn g i) f.cd.len).countP fun a=>decide (a<(f.hd.x i).fr))<((trM (f.opn g i) f.cd.len).countP fun a=>decide (a<(f.hd.x i).tw_))) :
  (trM (f.opn g i) f.cd.len).take ((trM (f.opn g i) f.cd.len).countP fun a=>decide (a<(f.hd.x i).fr))++(trM (f.opn g i) f.cd.len).drop ((trM (f.opn g i) f.cd.len).countP fun a=>decide (a<(f.hd.x i).tw_))=trM (f.opn g (i+1)) f.cd.len:=by
 rw[zmf _ _ (zdw _ _),zno _ _ (zdw _ _),zmz (cnt_lt h) _ (zdw _ _),zpo]
 congr 1
 funext p
 rw[zme];rfl
theorem ztw {f:Cf}{g:Rw Bool}{i:Nat}(h:¬((trM (f.opn g i) f.cd.len).countP fun a=>decide (a<(f.hd.x i).fr))<((trM (f.opn g i) f.cd.len).countP fun a=>decide (a<(f.hd.x i).tw_))) :
  (∀p:Nat,p<f.cd.len→f.opn g i p=true→hitH (f.hd.x i) p=false)∧trM (f.opn g (i+1)) f.cd.len=trM (f.opn g i) f.cd.len:=by
 have key:∀p:Nat,p<f.cd.len→f.opn g i p=true→hitH (f.hd.x i) p=false:=fun p hp ho=>zkm _ h p (zwp.2 ⟨p,rfl,hp,ho⟩);refine⟨key,?_⟩;unfold trM
 congr 1
 apply List.filter_congr
 intro p hp;rw[zme];cases e:f.opn g i p
 ·rfl
 ·rw[key p (List.mem_range.1 hp) e];rfl
end
end Go.Proofs.YtfobijdkoeifjaaGreatDoor
