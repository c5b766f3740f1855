import Derived.Test.YtfobijdkoeifjaaGreatDoorP30
import Derived.Test.YtfobijdkoeifjaaGreatDoorP25
import Derived.Test.YtfobijdkoeifjaaGreatDoorP24
import Derived.Test.YtfobijdkoeifjaaGreatDoorP23
import Derived.Test.YtfobijdkoeifjaaGreatDoorP35
import Derived.Test.YtfobijdkoeifjaaGreatDoorP34
set_option maxRecDepth 100000
set_option maxHeartbeats 32000000
namespace Go.Proofs.YtfobijdkoeifjaaGreatDoor
section
open Go Go.RowKit
theorem zm1 {w:World}{ops:Array Oper}{rest:List Oper}{o:Oper}{a:Act}{Q:Exit→Act→World→Prop}(hg:o.guard=none)(l c:Operand)(hop:o.op=Op.makeSlice 36 l c)(n:Nat)(hl:a.eval l=.int .i64 (n:Int))(hc:a.eval c=.int .i64 (n:Int))(hn:n≤100000)
  (h:∀w' B,Below w.heap.size w w'→Blk w' B (zai (fun _=>zaa 0 0) n) 38→w.heap.size≤B→wpList Tryz.prog ops Q rest (a.put o.dst (.slice (some ⟨B,0,none⟩) n n)) w'):wpList Tryz.prog ops Q (o :: rest) a w :=
 wpList_plain hg fun _ hK=>za5 l c hop n hl hc hn (fun w' B h1 h2 h3=>hK _ _ (h w' B h1 h2 h3))
def BegP (w:World)(f:Cf)(N:Nat)(e:Ending)(w':World):Prop:=∃B:Nat,e=.returned (.agg (stV (zaa 0 0) (rowT B N N f.begSl.x)).toArray)∧Blk w' B (zai f.begSl.x N) 38∧w.heap.size≤B∧Below w.heap.size w w'
theorem zrr (f:Cf)(N:Nat)(w:World)(hf:f.At w)(hN:f.sl=N)(hc:f.c.len<N)(hN2:N≤1000):Calls Tryz.prog 60 #[.agg f.vs.toArray] w (BegP w f N):=by
 have A0:=za9 [.cells f.vs.toArray 44,.cells zS2.toArray 105] w;have A1:=zbe [.cells f.vs.toArray 44,.cells zS2.toArray 105] w;have A2:=zej [.cells f.vs.toArray 44,.cells zS2.toArray 105] w;simp only[List.foldl,List.length] at A0 A1 A2;have H1:=hyd (show (Below w.heap.size w _∧Blk _ w.heap.size f.vs 44∧Blk _ (w.heap.size+1) zS2 105)∧_=w.heap.size+2 from ⟨⟨A0,A1 0 (by simp),A1 1 (by simp)⟩,A2⟩);have HD:=hyd (show f.At w∧f.sl=N∧f.c.len<N∧N≤1000 from ⟨hf,hN,hc,hN2⟩);have HX:Hid (∀i,i<N→(fun i=>if i<1 then (upT (fun _:Nat=>zaa 0 0) 0 f.p) i else if i - 1<f.c.len then f.c.ps (i - 1) else (upT (fun _:Nat=>zaa 0 0) 0 f.p) i) i=f.begSl.x i):=fun i hi=>by
  show (if i<1 then _ else _)=(if i=0 then f.p else if i - 1<f.c.len then f.c.ps (i - 1) else zaa 0 0)
  unfold upT;by_cases e:i=0
  ·rw[if_pos (by omega),if_pos e,if_pos e]
  ·rw[if_neg (by omega),if_neg e,if_neg e]
 have HM:Hid (f.c.len=Nat.min f.c.len (N - 1)):=by show _=min f.c.len (N - 1);omega
 have f5:=H1.out.1.2.1.cell 13 rfl;rw[HD.out.2.1] at f5;clear A0 A1 A2 hf hN hc hN2;unfold zS2 at H1 f5;go_enter Tryz.func60,Tryz.ntmps60
 go_upto_region 1 with fail
 generalize (w.alloc (.cells f.vs.toArray 44)).alloc (.cells #[.slice none 0 0,.slice none 0 0] 105)=u1 at *;go_upto_region 2 with (first | (refine zm1 rfl (.tmp 5) (.tmp 5) rfl N (by kernel_rfl) (by kernel_rfl) (by have:=HD.out.2.2.2;omega) ?_;intro u2 BL hb hB hge) | (refine zao rfl rfl 105 rfl (.tmp 3) (.tmp 7) rfl zS2 (alloc_vst _) rfl #[.slice none 0 0,.slice (some ⟨BL,0,none⟩) N N] (by kernel_rfl) (by kernel_rfl) rfl (by kernel_rfl) rfl ?_))
 have B5:=zac u2 (.cells #[.slice none 0 0,.slice (some ⟨BL,0,none⟩) N N] 105);have H2:=hyd (show (Below w.heap.size w (u2.alloc (.cells #[.slice none 0 0,.slice (some ⟨BL,0,none⟩) N N] 105))∧Blk (u2.alloc (.cells #[.slice none 0 0,.slice (some ⟨BL,0,none⟩) N N] 105)) w.heap.size f.vs 44∧Blk (u2.alloc (.cells #[.slice none 0 0,.slice (some ⟨BL,0,none⟩) N N] 105)) (w.heap.size+1) zS2 105)∧(Blk (u2.alloc (.cells #[.slice none 0 0,.slice (some ⟨BL,0,none⟩) N N] 105)) BL (zai (fun _=>zaa 0 0) N) 38∧Blk (u2.alloc (.cells #[.slice none 0 0,.slice (some ⟨BL,0,none⟩) N N] 105)) u2.heap.size [.slice none 0 0,.slice (some ⟨BL,0,none⟩) N N] 105)∧w.heap.size+2≤BL∧BL<u2.heap.size from
  ⟨⟨Below.next (Below.next H1.out.1.1 hb) B5,(H1.out.1.2.1.kept hb).kept B5,(H1.out.1.2.2.kept hb).kept B5⟩,⟨hB.kept B5,Blk.new u2 [.slice none 0 0,.slice (some ⟨BL,0,none⟩) N N] _⟩,by have:=H1.out.2;omega,hB.lt⟩)
 clear hb hB hge B5 H1 f5;generalize u2.alloc (.cells #[.slice none 0 0,.slice (some ⟨BL,0,none⟩) N N] 105)=u3 at *;generalize u2.heap.size=B3 at *;have s1:=H2.out.2.1.2.cell 1 rfl;have rP:u3.rangeAt w.heap.size 0 f.p.vs:=rng5 H2.out.1.2.1 rfl rfl rfl rfl rfl;have bL:=H2.out.2.1.1;have i0:(0:Int)<N:=by have:=HD.out.2.2;omega
 go_upto_region 3 with (first | (refine wpList_load_mid rfl 38 (.tmp 10) rfl w.heap.size 0 (by kernel_rfl) f.p.vs _ rP Tryz.underlying38 rfl (by kernel_rfl) ?_) | (refine zjy rfl (.tmp 12) (.tmp 11) rfl rfl BL 0 N (fun _=>zaa 0 0) f.p (by kernel_rfl) (by kernel_rfl) bL (by have:=HD.out.2.2;omega) ?_;intro u4 W4))
 have H4:=hyd (show (Below w.heap.size w u4∧Blk u4 w.heap.size f.vs 44∧Blk u4 (w.heap.size+1) zS2 105)∧(Blk u4 BL (zai (upT (fun _=>zaa 0 0) 0 f.p) N) 38∧Blk u4 B3 [.slice none 0 0,.slice (some ⟨BL,0,none⟩) N N] 105)∧w.heap.size+2≤BL∧BL<B3 from
  ⟨⟨W4.below (by have:=H2.out.2.2;omega) H2.out.1.1,W4.keep H2.out.1.2.1 (by have:=H2.out.2.2;omega),W4.keep H2.out.1.2.2 (by have:=H2.out.2.2;omega)⟩,⟨W4.blk,W4.keep H2.out.2.1.2 (by have:=H2.out.2.2;omega)⟩,H2.out.2.2⟩)
 clear W4 bL rP s1 i0 H2;go_upto_region 3 with fail
 have i1:(1:Int)≤N:=by have:=HD.out.2.2;omega
 have q1:=fun x:Gr u4=>x.cell (H4.out.2.1.2.cell 1 rfl);have q2:=fun x:Gr u4=>x.cell (H4.out.1.2.1.cell 10 rfl);have hNE:Nonempty (Gr u4):=⟨⟨_,Below.refl _ _⟩⟩;refine zat 5 (by kernel_rfl) (by kernel_rfl) ?_;simp only[List.take,List.drop];iterate 5 go_big_quiet_step (fail)
 refine wpQuiet_nil ?_;rintro y1 ⟨xg,rfl⟩;have Bg:=xg.bl;generalize xg.w=y1 at Bg ⊢;have H5:=hyd (show (Below w.heap.size w y1∧Blk y1 (w.heap.size+1) zS2 105)∧(Blk y1 BL (zai (upT (fun _=>zaa 0 0) 0 f.p) N) 38∧Blk y1 B3 [.slice none 0 0,.slice (some ⟨BL,0,none⟩) N N] 105)∧w.heap.size+2≤BL∧BL<B3 from ⟨⟨Below.next H4.out.1.1 Bg,H4.out.1.2.2.kept Bg⟩,⟨H4.out.2.1.1.kept Bg,H4.out.2.1.2.kept Bg⟩,H4.out.2.2⟩);have hp:0<f.c.len→(if N=1 then some ⟨BL,0,none⟩ else some ⟨BL,5,none⟩:Option Addr)=some ⟨BL,1*5,none⟩∧∃b oo,f.c.ao=some ⟨b,oo,none⟩∧∀i,i<f.c.len→y1.rangeAt b (oo+i*5) (f.c.ps i).vs:=fun h=>⟨by have:=HD.out.2.2;rw[if_neg (by omega)],f.c.b,f.c.o,HD.out.1.c.nil h,fun i hi=>zaf (zbm HD.out.1.c hi) H5.out.1.1⟩;have HP:=hyd hp;clear hp xg Bg H4 q1 q2 hNE i1;generalize (if N=1 then some ⟨BL,0,none⟩ else some ⟨BL,5,none⟩:Option Addr)=dp at *;have bL:=H5.out.2.1.1;go_upto_region 4 with (refine zd7 rfl (.tmp 15) (.tmp 17) rfl _ _ _ _ _ _ rfl rfl BL 1 N (upT (fun _=>zaa 0 0) 0 f.p) f.c.ps bL f.c.len HM.out HP.out (by have:=HD.out.2.2;omega) ?_;intro w5 G5 O5 L5)
 rw[zcs N HX.out] at G5;have H6:=hyd (show (Below w.heap.size w w5∧Blk w5 (w.heap.size+1) zS2 105)∧(Blk w5 BL (zai f.begSl.x N) 38∧Blk w5 B3 [.slice none 0 0,.slice (some ⟨BL,0,none⟩) N N] 105)∧w.heap.size+2≤BL∧BL<B3 from ⟨⟨L5 (by have:=H5.out.2.2;omega) H5.out.1.1,by unfold Blk;rw[O5 _ (by have:=H5.out.2.2;omega)];exact H5.out.1.2⟩,⟨G5,by unfold Blk;rw[O5 _ (by have:=H5.out.2.2;omega)];exact H5.out.2.1.2⟩,H5.out.2.2⟩)
 clear G5 O5 L5 HP bL H5;have r3:=H6.out.2.1.2.range;have bR:=H6.out.1.2;go_wp2_with (first | (refine wpList_load_mid rfl 105 (.tmp 3) rfl B3 0 (by kernel_rfl) _ _ r3 Tryz.underlying105 rfl (by kernel_rfl) ?_) | (refine zag rfl rfl 105 (.tmp 2) (.tmp 19) rfl (w.heap.size+1) [.slice none 0 0,.slice (some ⟨BL,0,none⟩) N N] (by kernel_rfl) (by kernel_rfl) rfl bR rfl (by kernel_rfl) ?_;intro w6 W6));have rB:=W6.blk.range;exact bodyPost_ret (v:=.agg #[.slice none 0 0,.slice (some ⟨BL,0,none⟩) N N]) (zax (vs:=[.slice none 0 0,.slice (some ⟨BL,0,none⟩) N N]) Tryz.underlying105 rfl (by kernel_rfl) Tryz.results60 rfl rB) rfl ⟨BL,rfl,W6.keep H6.out.2.1.1 (by have:=H6.out.2.2;omega),by have:=H6.out.2.2;omega,W6.below (by omega) H6.out.1.1⟩
def slX (ao:Option Addr)(cap n:Nat):Option Addr:=if cap=n then ao else ao.map (·.add (n*5))
theorem zum {b o cap n:Nat}(h:n<cap):slX (some ⟨b,o,none⟩) cap n=some ⟨b,o+n*5,none⟩:=by
 unfold slX;rw[if_neg (by omega)];show some (Addr.add ⟨b,o,none⟩ (n*5))=_
 rw[adp]
theorem zlz (ao:Option Addr)(len cap n:Nat)(w:World)(hn:n≤len):(Instr.slice 36 (.slice ao len cap) (some (.int .i64 (n:Int))) none none).run Tryz.prog w=.ok (.slice (slX ao cap n) (len - n) (cap - n)) w:=by
 obtain⟨i0,hi,hz0,hz1,hz2⟩:=info_parts Tryz.infoTy5;have h1:(0:Int)≤(n:Int)∧(n:Int)≤(len:Int):=⟨by omega,by omega⟩;simp[Instr.slice,run_underlying Tryz.underlying36,Instr.sliceBounds,Instr.sliceBound,asIntOf,h1,hn,sizeOf,typeInfo,hi,hz1,slX]
theorem zjz (ao:Option Addr)(len cap n:Nat)(w:World)(hn:n≤len):(Instr.sliceAt 36 (.slice ao len cap) (some (.int .i64 (n:Int))) none none).run Tryz.prog w=.ok (.slice (slX ao cap n) (len - n) (cap - n)) w:=by
 simp[Instr.sliceAt,run_underlying Tryz.underlying36,zlz ao len cap n w hn]
theorem zju {C:World→Prop}{K:Act→Prop}{a:Act}{o:Oper}(x l:Operand)(ho:o.op=.slice 36 x (some l) none none)(ao:Option Addr)(len cap n:Nat)(hx:a.eval x=.slice ao len cap)(hl:a.eval l=.int .i64 (n:Int))(hn:n≤len)(h:K (a.put o.dst (.slice (slX ao cap n) (len - n) (cap - n)))):o.quiet Tryz.prog a C K:=by
 refine⟨.slice (slX ao cap n) (len - n) (cap - n),fun w hC=>?_,h⟩;unfold Oper.quietAt execOp;simp only[ho,Option.map_some,Option.map_none,hx,hl,Sem.run_bind,zjz ao len cap n w hn,Result.andThen_ok,Sem.run_pure];exact⟨rfl,rfl⟩
theorem run_box_step (cs:Array Value)(w:World):(Instr.box 170 (.agg cs)).run Tryz.prog w=.ok (.pointer (some ⟨w.heap.size,0,none⟩)) (w.alloc (.cells cs 170)):=by
 simp[Instr.box,go_sem,Value.cells]
theorem zn2 {o:Oper}{a:Act}{w:World}{K:Act→World→Prop}{Q:Exit→Act→World→Prop}(x:Operand)(ho:o.op=.box 170 x)(cs:List Value)(hx:a.eval x=.agg cs.toArray)(h:∀u B,Below w.heap.size w u→Blk u B cs 170→w.heap.size≤B→K (a.put o.dst (.pointer (some ⟨B,0,none⟩))) u):o.wp Tryz.prog a w K Q:=by
 unfold Oper.wp execOp;simp only[ho,hx,Sem.run_bind,run_box_step,Result.andThen_ok,Sem.run_pure];exact h _ _ (zac _ _) (Blk.new _ _ _) (Nat.le_refl _)
def BgP (v:Vp)(g:Rw Bool)(BJ:Nat)(w:World)(e:Ending)(w':World):Prop :=
 (v.pt.st.len<v.need∧e=.returned (.tuple #[.pointer none,.bool false])∧Below w.heap.size w w') ∨
 (v.need≤v.pt.st.len∧∃(BS:Nat) (tT:Ty) (B1 B2 M:Nat),e=.returned (.tuple #[.pointer (some ⟨BS,0,none⟩),.bool true])∧Sw w M v g BJ BS tT B1 B2 v.left v.pt.sl.len v.pt.st.ps v.pt.sl.ps (-1) (-1) w')
theorem zxo {w:World}{s:Ty}{n:Nat}{tk:Nat→Ty}(h:s.At w)(hn:n≤s.len)(hc:s.len≤s.cap)(ht:∀i,i<s.len - n→tk i=s.ps (n+i)):(Ty.mk 0 0 0 0 (slX s.ao s.cap n) s.b (s.o+n*5) (s.len - n) (s.cap - n) tk).At w :=
 ⟨fun hl=>by rw[h.nil (by omega)];exact zum (by omega),by have:=h.bound;omega,fun i hi=>by
  rw[ht i hi,show s.o+n*5+i*5=s.o+(n+i)*5 by omega];exact⟨h.cells (by omega),h.part (by omega)⟩⟩
theorem zt2 (v:Vp)(g:Rw Bool)(BJ:Nat)(w:World)(h:Jb v.c v.f g BJ w)(hT:Pg2 w)(hp:v.p<v.f.cd.len)(hpp:v.f.pt.len=v.f.cd.len)(hl8:v.pt.st.len≤1000)(hs:v.pt.sl.len≤1000)(hcap:v.pt.st.len≤v.pt.st.cap)(hnn:(popV v.c v.f v.p).1=(v.need:Int))(hn1:v.need≤1000):Calls Tryz.prog 98 #[.pointer (some ⟨BJ,0,none⟩),.int .i64 v.p] w (BgP v g BJ w):=by
 have H1:=hyd (show Jb v.c v.f g BJ w∧Pg2 w from ⟨h,hT⟩);have HD:=hyd (show (v.p<v.f.cd.len∧v.f.pt.len=v.f.cd.len)∧(v.pt.st.len≤1000∧v.pt.sl.len≤1000)∧v.pt.st.len≤v.pt.st.cap∧v.need≤1000 from ⟨⟨hp,hpp⟩,⟨hl8,hs⟩,hcap,hn1⟩);have HQ:=hyd (h.f.pt.each v.p (by omega));have HPT:Hid (v.f.pt.x v.p=v.pt):=rfl;have HN:=hyd hnn;have j19:w.cell? ⟨BJ,19,none⟩=some (.slice (some ⟨v.f.pt.b,v.f.pt.o,none⟩) v.f.pt.len v.f.pt.cap):=by rw[←h.f.pt.nil (by omega)];exact h.b.cell 19 rfl
 have r0:w.rangeAt v.f.pt.b (v.f.pt.o+v.p*3) v.pt.vs:=h.f.pt.row v.p (by omega);have i0:(v.p:Int)<v.f.pt.len:=by omega
 clear h hT hp hpp hl8 hs hcap hnn hn1;go_enter Tryz.func98,Tryz.ntmps98
 go_upto_region 2 with (first | (refine wpList_load_mid rfl 48 (.tmp 16) rfl v.f.pt.b (v.f.pt.o+v.p*3) (by kernel_rfl) v.pt.vs _ r0 Tryz.underlying48 rfl (by kernel_rfl) ?_) | (refine zao rfl rfl 48 rfl (.tmp 6) (.tmp 17) rfl zP3 (zk4 _) rfl v.pt.vs.toArray (by kernel_rfl) (by kernel_rfl) rfl (by kernel_rfl) (by simpa using v.pt.vs_one) ?_))
 simp only[Act.put,zA,zB,zC];have B1:=zac w (.cells v.pt.vs.toArray 48);have H2:=hyd (show (Jb v.c v.f g BJ (w.alloc (.cells v.pt.vs.toArray 48))∧Pg2 (w.alloc (.cells v.pt.vs.toArray 48)))∧Blk (w.alloc (.cells v.pt.vs.toArray 48)) w.heap.size v.pt.vs 48∧Below w.heap.size w (w.alloc (.cells v.pt.vs.toArray 48)) from ⟨⟨H1.out.1.kept B1,H1.out.2.kept B1⟩,Blk.new w _ _,B1⟩);clear B1 j19 r0 i0;generalize w.alloc (.cells v.pt.vs.toArray 48)=u1 at *;have hpo:∀x:Gr u1,Calls Tryz.prog 138 #[.agg v.f.vs.toArray,.agg #[.slice v.c.n.ao v.c.n.len v.c.n.cap,.slice v.c.g.ao v.c.g.len v.c.g.cap,.slice v.c.fs.ao v.c.fs.len v.c.fs.cap],.int .i64 v.p] x.w fun e w'=>e=.returned (.tuple #[.int .i64 v.need,.int .i64 (popV v.c v.f v.p).2])∧Below x.w.heap.size x.w w':=fun x=>by
  have:=ztv v.c v.f v.p x.w (H2.out.1.1.kept x.bl).c (H2.out.1.1.kept x.bl).f (H2.out.1.2.kept x.bl);rw[HN.out] at this;exact this
 have rF:∀u,(∃x:Gr u1,u=x.w)→u.rangeAt BJ 3 v.f.vs:=fun _ hC=>by obtain⟨x,rfl⟩:=hC;exact zaf (zg8 H2.out.1.1) (Gr.bl x)
 have rC:∀u,(∃x:Gr u1,u=x.w)→u.rangeAt BJ 0 [.slice v.c.n.ao v.c.n.len v.c.n.cap,.slice v.c.g.ao v.c.g.len v.c.g.cap,.slice v.c.fs.ao v.c.fs.len v.c.fs.cap]:=fun _ hC=>by
  obtain⟨x,rfl⟩:=hC;intro j y hj;have hb:=(H2.out.1.1.kept x.bl).b
  match j,hj with
  | 0,hj=>exact hb.cell 0 hj
  | 1,hj=>exact hb.cell 1 hj
  | 2,hj=>exact hb.cell 2 hj
  | j+3,hj=>simp at hj
 have hNE:Nonempty (Gr u1):=⟨⟨_,Below.refl _ _⟩⟩;generalize (popV v.c v.f v.p).2=pu at *;refine zah (by kernel_rfl) (by kernel_rfl) ?_;iterate 3 go_big_quiet_step (fail)
 go_big_quiet_want;refine zad 44 (.tmp 21) rfl BJ 3 (by kernel_rfl) v.f.vs _ rF Tryz.underlying44 rfl (by kernel_rfl) ?_;simp only[Act.put,zA,zB,zC];go_big_quiet_on;iterate 3 go_big_quiet_step (fail)
 go_big_quiet_want;refine zad 28 (.tmp 25) rfl BJ 0 (by kernel_rfl) _ _ rC Tryz.underlying28 rfl (by kernel_rfl) ?_;simp only[Act.put,zA,zB,zC];go_big_quiet_on;go_big_quiet_step (fail)
 go_big_quiet_step ((go_at_call 138;exact Calls.gr _ (hpo _)))
 iterate 5 go_big_quiet_step (fail)
 refine wpQuiet_nil ?_;rintro y1 ⟨xg,rfl⟩;have Bg:=xg.bl;generalize xg.w=y1 at Bg ⊢;have H3:=hyd (show Jb v.c v.f g BJ y1∧Blk y1 w.heap.size v.pt.vs 48∧Below w.heap.size w y1 from ⟨H2.out.1.1.kept Bg,H2.out.2.1.kept Bg,Below.next H2.out.2.2 Bg⟩);clear xg Bg H2 hpo rF rC hNE;have p0:=H3.out.2.1.cell 0 rfl;have k1:v.pt.st.len≤1000:=HD.out.2.1.1;have k2:v.need≤1000:=HD.out.2.2.2;by_cases hlt:v.pt.st.len<v.need
 ·have e1:(v.pt.st.len:Int) - v.need<0:=by omega
  have HLT:=hyd hlt;clear hlt;go_wp2;refine bodyPost_ret (v:=.tuple #[.pointer none,.bool false]) (by kernel_rfl) rfl ?_;exact Or.inl ⟨HLT.out,rfl,H3.out.2.2⟩
 ·have e1:¬(v.pt.st.len:Int) - v.need<0:=by omega
  have eL:(v.pt.st.len:Int) - v.need=(v.left:Int):=by unfold Vp.left;omega
  have HLT:=hyd (show v.need≤v.pt.st.len∧v.left+v.need=v.pt.st.len by unfold Vp.left;omega)
  clear hlt;go_upto_region 6 with fail
  clear e1 p0;have p0:∀x:Wd (fun q=>Below y1.heap.size y1 q),x.w.cell? ⟨w.heap.size,0,none⟩=_:=fun x=>(H3.out.2.1.kept x.2).cell 0 rfl;have p2:∀x:Wd (fun q=>Below y1.heap.size y1 q),x.w.cell? ⟨w.heap.size,2,none⟩=_:=fun x=>(H3.out.2.1.kept x.2).cell 2 rfl;have j17:∀x:Wd (fun q=>Below y1.heap.size y1 q),x.w.cell? ⟨BJ,17,none⟩=some (.slice (some ⟨v.f.cd.b,v.f.cd.o,none⟩) v.f.cd.len v.f.cd.cap):=fun x=>by rw[←H3.out.1.f.cd.nil (by have:=HD.out.1.1;omega)];exact (H3.out.1.kept x.2).b.cell 17 rfl
  have rI:∀u,(∃x:Wd (fun q=>Below y1.heap.size y1 q),u=x.w)→u.rangeAt v.f.cd.b (v.f.cd.o+v.p*7) [.int .i64 v.op,.int .i64 v.a,.int .i64 v.ins.t.k,.int .i64 v.ins.t.l,.slice v.ins.t.ao v.ins.t.len v.ins.t.cap,.int .i64 v.ins.t.h,.int .i64 v.ins.t.e]:=fun _ hC=>by obtain⟨x,rfl⟩:=hC;exact zaf (H3.out.1.f.cd.row v.p HD.out.1.1) x.2
  have rP:∀u,(∃x:Wd (fun q=>Below y1.heap.size y1 q),u=x.w)→u.rangeAt w.heap.size 0 v.pt.vs:=fun _ hC=>by obtain⟨x,rfl⟩:=hC;exact zaf (H3.out.2.1.range) x.2
  have hNE:Nonempty (Wd (fun q=>Below y1.heap.size y1 q)):=⟨⟨_,Below.refl _ _⟩⟩;have i0:(v.p:Int)<v.f.cd.len:=by have:=HD.out.1.1;omega
  have i1:(v.left:Int)≤v.pt.st.len:=by have:=HLT.out;omega
  have HV0:=hyd (Below.refl y1.heap.size y1).drew;refine zal (fun q=>Below y1.heap.size y1 q) [0,1,2,3,4,5,6,7,8,9,10,11,12,13,14,15,16,17] 5 (by kernel_rfl) rfl (by kernel_rfl) (za7 (by kernel_rfl)) HV0.out ?_;simp only[List.filterMap,zD,zE];iterate 11 go_big_quiet_step (fail)
  go_big_quiet_want;refine zad 50 (.tmp 48) rfl v.f.cd.b (v.f.cd.o+v.p*7) (by kernel_rfl) _ _ rI Tryz.underlying50 rfl (by kernel_rfl) ?_;simp only[Act.put,zA,zB,zC];go_big_quiet_on;iterate 3 go_big_quiet_step (fail)
  go_big_quiet_want;refine zju (.tmp 51) (.tmp 52) rfl v.pt.st.ao v.pt.st.len v.pt.st.cap v.left (by kernel_rfl) (by kernel_rfl) (by have:=HLT.out;omega) ?_
  simp only[Act.put,zA,zB,zC];go_big_quiet_on;go_big_quiet_want;refine zad 48 (.tmp 6) rfl w.heap.size 0 (by kernel_rfl) v.pt.vs _ rP Tryz.underlying48 rfl (by kernel_rfl) ?_;simp only[Act.put,zA,zB,zC];go_big_quiet_on;go_big_quiet_step (fail)
  refine wpQuiet_nil ?_;clear p0 p2 j17 rI rP hNE i0 i1;generalize y1.drew=v0 at *;refine wpAnyH_ready (rs:=[18]) (by kernel_rfl) (by simp) ?_;refine AllReadyH.cons rfl (fun K hK=>?_) AllReadyH.nil;rw[if_pos (by rfl)];go_simp;refine (zqs v.pt v.left v0 (HQ.out.kept (Below.next H3.out.2.2 HV0.out)) (by have:=HLT.out;omega) (by have:=HD.out.2.1;have:=HLT.out;omega) HD.out.2.1.2).mono ?_
  rintro e w2 ⟨C1,C2,he,hB,hN,hb⟩;have he2:e=.returned (.agg #[.slice (some ⟨C1,0,none⟩) v.left v.left,.slice (some ⟨C2,0,none⟩) v.pt.sl.len v.pt.sl.len]):=he;subst he2;have H4:=hyd (show Below y1.heap.size y1 w2∧(Blk w2 C1 (zai v.pt.st.ps v.left) 38∧Blk w2 C2 (zai v.pt.sl.ps v.pt.sl.len) 38)∧C1≠C2∧v0.heap.size≤C1∧v0.heap.size≤C2 from ⟨Below.next HV0.out hb,hB,hN⟩);have HZ:=hyd (show y1.heap.size≤v0.heap.size from HV0.out.size);clear he hB hN hb;refine hK.out _ _ H4.out.1 (fun _=>?_);clear hK K;refine wpAnyH_ready (rs:=[19]) (by kernel_rfl) (by simp) ?_;refine AllReadyH.cons rfl (fun K hK=>?_) AllReadyH.nil;rw[if_pos (by rfl)];go_simp;refine hK.out _ _ H4.out.1 (fun _=>?_);clear hK K;refine wpAnyH_ready (rs:=[20]) (by kernel_rfl) (by simp) ?_;refine AllReadyH.cons rfl (fun K hK=>?_) AllReadyH.nil;rw[if_pos (by rfl)];refine zn2 (.tmp 57) rfl (svs v BJ (.mk 0 0 0 0 (slX v.pt.st.ao v.pt.st.cap v.left) v.pt.st.b (v.pt.st.o+v.left*5) (v.pt.st.len - v.left) (v.pt.st.cap - v.left) v.tk) (rowT C1 v.left v.left v.pt.st.ps) (rowT C2 v.pt.sl.len v.pt.sl.len v.pt.sl.ps) (-1) (-1)) (by kernel_rfl) ?_;intro u BS hb hB hge;have H5:=hyd (show Below y1.heap.size y1 u∧((Blk u C1 (zai v.pt.st.ps v.left) 38∧Blk u C2 (zai v.pt.sl.ps v.pt.sl.len) 38)∧C1≠C2∧v0.heap.size≤C1∧v0.heap.size≤C2)∧(Blk u BS _ 170∧C1<BS∧C2<BS) from ⟨Below.next H4.out.1 hb,⟨⟨H4.out.2.1.1.kept hb,H4.out.2.1.2.kept hb⟩,H4.out.2.2⟩,hB,by have:=H4.out.2.1.1.lt;omega,by have:=H4.out.2.1.2.lt;omega⟩)
  clear hb hB hge H4;refine hK.out _ _ H5.out.1 (fun _=>?_);clear hK K;refine wpAnyH_ready (rs:=[21]) (by kernel_rfl) (by simp) ?_;refine AllReadyH.cons rfl (fun K hK=>?_) AllReadyH.nil;rw[if_pos (by rfl)];go_simp;refine hK.out _ _ H5.out.1 (fun _=>?_);clear hK K;refine wpAnyH_ready (rs:=[22]) (by kernel_rfl) (by simp) ?_;refine AllReadyH.cons rfl (fun K hK=>?_) AllReadyH.nil;rw[if_pos (by rfl)];go_simp;refine hK.out _ _ H5.out.1 (fun _=>?_);clear hK K;refine wpAnyH_done (by kernel_rfl) ?_ _;refine⟨(fun c hc=>by cases hc),?_⟩;have HB:=hyd (Below.next H3.out.2.2 H5.out.1);go_wp2;refine bodyPost_ret (v:=.tuple #[.pointer (some ⟨BS,0,none⟩),.bool true]) (by kernel_rfl) rfl ?_;have hz:w.heap.size≤y1.heap.size:=H3.out.2.2.size;refine Or.inr ⟨HLT.out.1,BS,_,C1,C2,u.heap.size,rfl,⟨⟨HB.out,H1.out.1,HD.out.1.1,HD.out.1.2,H5.out.2.2.1,zxo HQ.out.st (by have:=HLT.out;omega) HD.out.2.2.1 (fun _ _=>rfl),by have:=HLT.out;show v.pt.st.len - v.left=v.need;omega,rfl⟩,H5.out.2.1.1.1,H5.out.2.1.1.2,fun i hi=>⟨(HQ.out.st.part (by have:=HLT.out;exact (show i<v.pt.st.len by omega))).kept HB.out,(HQ.out.st.part (by have:=HLT.out;exact (show i<v.pt.st.len by omega))).lt.mono (fun b hb=>Or.inl hb)⟩,fun i hi=>⟨(HQ.out.sl.part hi).kept HB.out,(HQ.out.sl.part hi).lt.mono (fun b hb=>Or.inl hb)⟩,⟨H5.out.2.1.2.1,by have:=H5.out.2.2.2;omega,by have:=H5.out.2.2.2;omega⟩,⟨⟨by have:=H5.out.2.1.2;have:=HZ.out;omega,by have:=H5.out.2.1.2;have:=HZ.out;omega,by have:=H5.out.2.2.2;have:=H5.out.2.1.2;have:=HZ.out;omega⟩,⟨H5.out.2.1.1.1.lt,H5.out.2.1.1.2.lt,H5.out.2.2.1.lt⟩,Nat.le_refl _⟩,⟨by have:=HD.out.2;have:=HLT.out;omega,HD.out.2.1.2⟩⟩⟩
theorem zmr {n:Strs}{g:Grid}{q:Pt}{a b c d:Tq}(h1:a.n=b.n)(h2:∀i,i<a.n→(a.x i).Nd∧(b.x i).Nd∧(a.x i).same (b.x i)=true)(h3:c.n=d.n)(h4:∀i,i<c.n→(c.x i).Nd∧(d.x i).Nd∧(c.x i).same (d.x i)=true):fitP n g q a c=fitP n g q b d:=by
 have e1:∀i,i<a.n→blw n g (a.x i) (q.st.ps i)=blw n g (b.x i) (q.st.ps i):=fun i hi=>ze3 (h2 i hi).1 (h2 i hi).2.1 (h2 i hi).2.2;have e2:∀i,i<c.n→slB n g (c.x i) (q.sl.ps i)=slB n g (d.x i) (q.sl.ps i):=fun i hi=>by unfold slB;rw[ze3 (h4 i hi).1 (h4 i hi).2.1 (h4 i hi).2.2]
 unfold fitP;have k1:decide (a.n=q.st.len)=decide (b.n=q.st.len):=by rw[h1]
 have k2:decide (∀i,i<a.n→blw n g (a.x i) (q.st.ps i)=true)=decide (∀i,i<b.n→blw n g (b.x i) (q.st.ps i)=true):=decide_eq_decide.2 ⟨fun h i hi=>by rw[←e1 i (by omega)];exact h i (by omega),fun h i hi=>by rw[e1 i hi];exact h i (by omega)⟩
 have k3:decide (∀i,i<c.n→slB n g (c.x i) (q.sl.ps i)=true)=decide (∀i,i<d.n→slB n g (d.x i) (q.sl.ps i)=true):=decide_eq_decide.2 ⟨fun h i hi=>by rw[←e2 i (by omega)];exact h i (by omega),fun h i hi=>by rw[e2 i hi];exact h i (by omega)⟩
 rw[k1,k2,k3]
theorem zv4 (v:Vp):v.done.sl.n=v.pt.sl.len:=by
 unfold Vp.done;by_cases h:v.op=4
 ·rw[if_pos h];rfl
 rw[if_neg h];by_cases h:v.op=5∨v.op=24
 ·rw[if_pos h];rfl
 rw[if_neg h];by_cases h:v.op=22
 ·rw[if_pos h];rfl
 rw[if_neg h];by_cases h:v.op=23
 ·rw[if_pos h];rfl
 rw[if_neg h];by_cases h:v.op=25
 ·rw[if_pos h];rfl
 rw[if_neg h];by_cases h:v.op=26
 ·rw[if_pos h];rfl
 rw[if_neg h];by_cases h:v.op=27
 ·rw[if_pos h];rfl
 rw[if_neg h];rfl
theorem zw7 {f:Cf}{g g':Rw Bool}{r:Rn}(hl:g.len=g'.len)(hx:g.x=g'.x):f.hold g r=f.hold g' r:=by
 obtain⟨a1,a2,a3,l,a4,x⟩:=g;obtain⟨b1,b2,b3,l',b4,x'⟩:=g';obtain rfl:l=l':=hl;obtain rfl:x=x':=hx;rfl
structure Okv (v:Vp):Prop where
 pp:v.f.pt.len=v.f.cd.len
 st:v.pt.st.len≤1000
 sl:v.pt.sl.len≤1000
 cap:v.pt.st.len≤v.pt.st.cap
 nn:(popV v.c v.f v.p).1=(v.need:Int)
 n1:v.need≤1000
 vd:v.need≤v.pt.st.len→Vd v
 few:v.f.cd.len≤100000
 sls:∀q,q<v.f.pt.len→v.pt.sl.len=(v.f.pt.x q).sl.len
 slp:∀i,i<v.pt.sl.len→(v.pt.sl.ps i).pn≤1000
 dst:v.need≤v.pt.st.len→∀i,i<v.done.st.n→(v.done.st.x i).Nd∧(v.done.st.x i).nodes≤1000
 dsl:v.need≤v.pt.st.len→∀i,i<v.done.sl.n→(v.done.sl.x i).Nd∧(v.done.sl.x i).nodes≤1000
 han:v.f.han v.p≠-1→∃q:Nat,v.f.han v.p=q∧q<v.f.pt.len
 ag:Agd v.f
 hd:v.f.hd.len≤100000
 rps:∀i,i<v.f.rg.len→∀j,j<(v.f.rg.x i).ps.len→∃q:Nat,(v.f.rg.x i).ps.x j=q∧q<v.f.pt.len
theorem ztl {v:Vp}{st sl:Ty}{w:World}(hs:st.At w)(hl:sl.At w)(h1:st.len=v.done.st.n)(h2:∀i,i<st.len→(st.ps i).same (v.done.st.x i)=true)(h3:sl.len=v.done.sl.n)(h4:∀i,i<sl.len→(sl.ps i).same (v.done.sl.x i)=true)(hd:∀i,i<v.done.st.n→(v.done.st.x i).Nd)(he:∀i,i<v.done.sl.n→(v.done.sl.x i).Nd):goesV v st.sq sl.sq=v.goesB:=by
 have:∀q,v.fit st.sq sl.sq q=v.fit v.done.st v.done.sl q:=fun q=>zmr h1 (fun i hi=>⟨(hs.part hi).nd,hd i (by rw[←h1];exact hi),h2 i hi⟩) h3 (fun i hi=>⟨(hl.part hi).nd,he i (by rw[←h3];exact hi),h4 i hi⟩)
 unfold goesV Vp.goesB;simp only[this]
theorem zv8 {v:Vp}{g:Rw Bool}(hl:g.len=v.f.cd.len)(hx:g.x=v.f.callB):conV v g v.done.k=v.contB:=by
 have:∀r,v.f.hold g r=v.f.hold v.f.calls r:=fun r=>zw7 hl hx;unfold conV Vp.contB Vp.regT;simp only[this];rfl
theorem zul (v:Vp)(g:Rw Bool)(BJ:Nat)(w:World)(h:Jb v.c v.f g BJ w)(hT:Pg2 w)(hp:v.p<v.f.cd.len)(ho:Okv v)(hgl:g.len=v.f.cd.len)(hgx:g.x=v.f.callB):Calls Tryz.prog 61 #[.pointer (some ⟨BJ,0,none⟩),.int .i64 v.p] w fun e w'=>e=.returned (.bool v.acc)∧Below w.heap.size w w':=by
 have HO:=hyd (show Okv v∧g.len=v.f.cd.len∧g.x=v.f.callB from ⟨ho,hgl,hgx⟩);have HA0:Hid (v.pt.st.len<v.need→v.acc=false):=fun k=>by unfold Vp.acc;rw[decide_eq_false (by omega)];rfl
 have HA1:Hid (v.need≤v.pt.st.len→v.acc=(v.done.ok&&(v.goesB&&(v.caughtB&&v.contB)))):=fun k=>by unfold Vp.acc;rw[decide_eq_true k];rfl
 have HPT:=hyd (h.f.pt.each v.p (by rw[ho.pp];exact hp))
 have h0:=zt2 v g BJ w h hT hp ho.pp ho.st ho.sl ho.cap ho.nn ho.n1;generalize v.acc=R at *;clear h hT hp ho hgl hgx;go_enter Tryz.func61,Tryz.ntmps61
 go_wp2_with fail
 refine h0.mono ?_;clear h0;rintro _ w1 (⟨hlt,rfl,hb⟩ | ⟨hle,BS,tT,B1,B2,M,rfl,hS⟩)
 ·have HE:=hyd (HA0.out hlt);clear hlt HA0 HA1;go_wp2;go_ret;exact⟨zab HE.out.symm,hb⟩
 have HL:=hyd hle;have HE:=hyd (HA1.out hle);have h0:=zr9 w M v g BJ BS tT B1 B2 w1 hS (HO.out.1.vd hle) HPT.out.sl;clear hle HA0 HA1 hS;go_wp2_with fail
 refine h0.mono ?_;clear h0;rintro _ w2 ⟨st,sl,rfl,⟨hr,hst,hsl⟩,⟨h1,h2⟩,h3,h4⟩;have HG:=hyd (ztl hst hsl h1 h2 h3 h4 (fun i hi=>(HO.out.1.dst HL.out i hi).1) (fun i hi=>(HO.out.1.dsl HL.out i hi).1));have HC:=hyd (zv8 HO.out.2.1 HO.out.2.2);have HK:Hid (cauV v v.done.p=v.caughtB):=rfl;have HPS:=hyd (show (∀i,i<st.len→(st.ps i).pn≤1000)∧(∀i,i<sl.len→(sl.ps i).pn≤1000) from ⟨fun i hi=>zh8 (hst.part hi).nd (HO.out.1.dst HL.out i (by rw[←h1];exact hi)).1 (h2 i hi) (HO.out.1.dst HL.out i (by rw[←h1];exact hi)).2,fun i hi=>zh8 (hsl.part hi).nd (HO.out.1.dsl HL.out i (by rw[←h3];exact hi)).1 (h4 i hi) (HO.out.1.dsl HL.out i (by rw[←h3];exact hi)).2⟩)
 have HSL:Hid (∀q,q<v.f.pt.len→sl.len=(v.f.pt.x q).sl.len):=fun q hq=>by rw[h3,zv4];exact HO.out.1.sls q hq
 have H2:=hyd (show Sr w v g BJ BS tT st sl v.done.k v.done.p w2∧st.At w2∧sl.At w2 from ⟨hr,hst,hsl⟩);clear hr hst hsl h1 h2 h3 h4;generalize v.done.ok=b1 at *;cases b1
 ·clear HK HC HG HPS HSL HO;go_wp2;go_ret;exact⟨zab HE.out.symm,H2.out.1.bl⟩
 have h0:=zrd w v g BJ BS tT st sl v.done.k v.done.p w2 H2.out.1 H2.out.2.1 H2.out.2.2 HO.out.1.few HSL.out HPS.out.1 HPS.out.2;rw[HG.out] at h0;clear HG HPS HSL;go_wp2_with fail
 refine h0.mono ?_;clear h0;rintro _ w3 ⟨rfl,hb⟩;have H3:=hyd (H2.out.1.kept hb);clear hb H2;generalize v.goesB=b2 at *;cases b2
 ·clear HK HC HO;go_wp2;go_ret;exact⟨zab HE.out.symm,H3.out.bl⟩
 have h0:=zrv w v g BJ BS tT st sl v.done.k v.done.p w3 H3.out (fun k=>by obtain⟨q,e,hq⟩:=HO.out.1.han k;exact⟨q,e,hq,HO.out.1.sls q hq⟩) HO.out.1.slp
 rw[HK.out] at h0;clear HK;go_wp2_with fail
 refine h0.mono ?_;clear h0;rintro _ w4 ⟨rfl,hb⟩;have H4:=hyd (H3.out.kept hb);clear hb H3;generalize v.caughtB=b3 at *;cases b3
 ·clear HC HO;go_wp2;go_ret;exact⟨zab HE.out.symm,H4.out.bl⟩
 have h0:=zrs w v g BJ BS tT st sl v.done.k v.done.p w4 H4.out HO.out.1.ag HO.out.1.hd HO.out.1.rps;rw[HC.out] at h0;clear HC HO;go_wp2_with fail
 refine h0.mono ?_;clear h0;rintro _ w5 ⟨rfl,hb⟩;have H5:=hyd (H4.out.kept hb);clear hb H4;generalize v.contB=b4 at *;go_wp2;go_ret;exact⟨zab HE.out.symm,H5.out.bl⟩
structure Okf (c:Kl)(f:Cf):Prop where
 sl:f.sl=(f.sl.toNat:Int)
 cl:f.c.len<f.sl.toNat
 sm:f.sl.toNat≤1000
 p0:0<f.pt.len
 s0:f.sl.toNat=(f.pt.x 0).sl.len
 nb:∀i,i<f.sl.toNat→(f.begSl.x i).pn≤1000
 pl:∀p,p<f.cd.len→Okv ⟨c,f,p⟩
theorem Cf.At.begAt {f:Cf}{w:World}(h:f.At w):∀i,(f.begSl.x i).At w:=fun i=>by
 show (if i=0 then f.p else if i - 1<f.c.len then f.c.ps (i - 1) else zaa 0 0).At w
 by_cases e:i=0
 ·rw[if_pos e];exact h.p
 rw[if_neg e];by_cases k:i - 1<f.c.len
 ·rw[if_pos k];exact h.c.part k
 ·rw[if_neg k];exact zav 0 0 w
theorem zue (c:Kl)(f:Cf)(g:Rw Bool)(BJ:Nat)(w:World)(h:Jb c f g BJ w)(hT:Pg2 w)(ho:Okf c f)(hgl:g.len=f.cd.len)(hgx:g.x=f.callB):Calls Tryz.prog 30 #[.pointer (some ⟨BJ,0,none⟩)] w fun e w'=>e=.returned (.int .i64 (f.ref c))∧Below w.heap.size w w':=by
 have HO:=hyd (show Okf c f∧g.len=f.cd.len∧g.x=f.callB from ⟨ho,hgl,hgx⟩);have H1:=hyd (show Jb c f g BJ w∧Pg2 w from ⟨h,hT⟩);have HR0:Hid (f.begB c=false→f.ref c=0):=fun k=>by unfold Cf.ref;rw[if_pos k]
 have HR1:Hid (f.begB c=true→(∀i,i<f.cd.len→(Vp.mk c f i).acc=true)→f.ref c=-1):=fun k h=>by
  unfold Cf.ref;rw[if_neg (by rw[k];exact Bool.noConfusion),zfk (fun i hi=>by rw[h i hi];rfl)]
 have HR2:Hid (f.begB c=true→∀j,j<f.cd.len→(∀i,i<j→(Vp.mk c f i).acc=true)→(Vp.mk c f j).acc=false→f.ref c=j):=fun k j hj h he=>by
  unfold Cf.ref;rw[if_neg (by rw[k];exact Bool.noConfusion),zed (p:=fun i=>!(Vp.mk c f i).acc) hj (by rw[he];rfl) (fun i hi=>by rw[h i hi];rfl)]
 have HB:Hid (∀B:Nat,fitP c.n c.g (f.pt.x 0) (zaa 0 0).sq (rowT B f.sl.toNat f.sl.toNat f.begSl.x).sq=f.begB c):=fun B=>zmr rfl (fun i hi=>absurd hi (Nat.not_lt_zero i)) rfl (fun i _=>⟨(h.f.begAt i).nd,(h.f.begAt i).nd,zaj _⟩);generalize f.ref c=R at *;generalize f.begB c=bb at *;have rF:=zg8 h;have hbd:=h.f.cd.bound;have h0:=zrr f f.sl.toNat w h.f ho.sl ho.cl ho.sm;clear h hT ho hgl hgx;go_enter Tryz.func30,Tryz.ntmps30
 go_wp2_with (refine wpList_load_mid rfl 44 (.tmp 7) rfl BJ 3 (by kernel_rfl) f.vs _ rF Tryz.underlying44 rfl (by kernel_rfl) ?_)
 refine h0.mono ?_;clear h0 rF;rintro _ w1 ⟨B,rfl,hBB,hge,hb⟩;have H2:=hyd (show (Jb c f g BJ w1∧Pg2 w1)∧Below w.heap.size w w1 from ⟨⟨H1.out.1.kept hb,H1.out.2.kept hb⟩,hb⟩);have h0:=zhp c f g BJ (zaa 0 0) (rowT B f.sl.toNat f.sl.toNat f.begSl.x) 0 w1 H2.out.1.1 (zav 0 0 w1) (zf7 hBB (fun i _=>H2.out.1.1.f.begAt i) (by have:=HO.out.1.sm;omega)) HO.out.1.p0 HO.out.1.s0 (fun i hi=>absurd hi (Nat.not_lt_zero i)) HO.out.1.nb
 rw[HB.out B] at h0;clear hBB hge hb H1 HB;go_wp2_with fail
 refine h0.mono ?_;clear h0;rintro _ w2 ⟨rfl,hb⟩;have H3:=hyd (show (Jb c f g BJ w2∧Pg2 w2)∧Below w.heap.size w w2 from ⟨⟨H2.out.1.1.kept hb,H2.out.1.2.kept hb⟩,Below.next H2.out.2 hb⟩);clear hb H2;cases bb
 ·have HE:=hyd (HR0.out rfl);clear HR0 HR1 HR2;go_wp2;go_ret;exact⟨zau HE.out.symm,H3.out.2⟩
 have HY:=hyd (show ((∀i,i<f.cd.len→(Vp.mk c f i).acc=true)→R=-1)∧∀j,j<f.cd.len→(∀i,i<j→(Vp.mk c f i).acc=true)→(Vp.mk c f j).acc=false→R=j from ⟨HR1.out rfl,HR2.out rfl⟩);have j17:w2.cell? ⟨BJ,17,none⟩=some (.slice f.cd.ao f.cd.len f.cd.cap):=H3.out.1.1.b.cell 17 rfl;clear HR0 HR1 HR2;go_wp2;go_loopw [18] (fun i wr=>∃(j:Nat),j≤f.cd.len∧i=.int .i64 j∧Below w2.heap.size w2 wr∧∀i,i<j→(Vp.mk c f i).acc=true) (fun i _=>f.cd.len - (intOf i).toNat)
 case atStart=>exact⟨0,Nat.zero_le _,rfl,Below.refl _ _,fun i hi=>absurd hi (Nat.not_lt_zero _)⟩
 case round =>
  clear j17;obtain⟨j,hj,rfl,hB,hall⟩:=hrel;have HB:=hyd (show Below w2.heap.size w2 wr∧Jb c f g BJ wr∧Pg2 wr from ⟨hB,H3.out.1.1.kept hB,H3.out.1.2.kept hB⟩);have HL:=hyd hall;clear hB hall;by_cases hlt:j<f.cd.len
  ·have ij:(j:Int)<f.cd.len:=by omega
   have h0:=zul ⟨c,f,j⟩ g BJ wr HB.out.2.1 HB.out.2.2 hlt (HO.out.1.pl j hlt) HO.out.2.1 HO.out.2.2;have HN:=hyd (HY.out.2 j hlt HL.out);have HP:Hid ((Vp.mk c f j).acc=true→∀i,i<j+1→(Vp.mk c f i).acc=true):=fun k i hi=>by
    by_cases e:i=j
    ·rw[e];exact k
    ·exact HL.out i (by omega)
   clear HL hlt;generalize (Vp.mk c f j).acc=bb at *;go_wp2_with fail
   refine h0.mono ?_;clear h0;rintro _ v1 ⟨rfl,hb⟩;have HX:=hyd (Below.next HB.out.1 hb);clear hb HB;cases bb
   ·have HE:=hyd (HN.out rfl);go_wp2;go_ret;exact⟨zau HE.out.symm,Below.next H3.out.2 HX.out⟩
   ·have HE:=hyd (HP.out rfl);clear HN HP;go_wp2;go_roundw
    case rel=>exact⟨j+1,by omega,by go_num,HX.out,HE.out⟩
    case measure=>simp[intOf];omega
  ·have ij:¬(j:Int)<f.cd.len:=by omega
   have HE:=hyd (HY.out.1 (fun i hi=>HL.out i (by omega)));go_wp2;go_ret;exact⟨zau HE.out.symm,Below.next H3.out.2 HB.out.1⟩
theorem zcr {o:Oper}{a:Act}{w w':World}{v:Value}{K:Act→World→Prop}{Q:Exit→Act→World→Prop}(t:TypeId)(parts:Array (Nat × Operand))(ho:o.op=.build t parts)(vals:Array (Nat × Value))(hv:(parts.map fun (i,x)=>(i,a.eval x))=vals)
  (hs:(Instr.build t vals).run Tryz.prog w=.ok v w') (h:K (a.put o.dst v) w'):o.wp Tryz.prog a w K Q:=by
 subst hv;unfold Oper.wp execOp;simp only[ho,Sem.run_bind,hs,Result.andThen_ok,Sem.run_pure];exact h
theorem zbb {P:Program}{Q:Exit→Act→World→Prop}{o:Oper}{a:Act}{w:World}{K:Act→World→Prop}(t:TypeId)(p x:Operand)(ho:o.op=.store t p x)(hdst:o.dst=none)(B:Nat)(vs c:List Value)(hp:a.eval p=.pointer (some ⟨B,0,none⟩))(hx:a.eval x=.agg vs.toArray)(h1:vs.all (·.oneCell')=true)
  (hb:Blk w B c t) (hl:c.length=vs.length) (hi:(P.info? t).map (·.size)=some vs.toArray.size) (h:∀w',WroteB w w' B vs t→K a w'):o.wp P a w K Q :=
 zhh t p x ho hdst B vs c hp hx h1 hb hl hi (h _ (zd3 hb vs hl))
end
end Go.Proofs.YtfobijdkoeifjaaGreatDoor
