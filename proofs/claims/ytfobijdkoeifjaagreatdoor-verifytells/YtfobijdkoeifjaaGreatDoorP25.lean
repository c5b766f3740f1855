import Derived.Test.YtfobijdkoeifjaaGreatDoorP23
import Derived.Test.YtfobijdkoeifjaaGreatDoorP21
import Derived.Test.YtfobijdkoeifjaaGreatDoorP12
import Derived.Test.YtfobijdkoeifjaaGreatDoorP24
import Derived.Test.YtfobijdkoeifjaaGreatDoorP9
import Derived.Test.YtfobijdkoeifjaaGreatDoorP10
import Derived.Test.YtfobijdkoeifjaaGreatDoorP14
import Derived.Deep.CutBlock
set_option maxRecDepth 100000
set_option maxHeartbeats 32000000
namespace Go.Proofs.YtfobijdkoeifjaaGreatDoor
section
open Go Go.RowKit
theorem zj2 (w:World)(base:Nat)(v:Value)(l:List Int)(x:Int)(h:Oi w base v l)(hs:l.Pairwise (·<·))(hl:l.length≤1000000):Calls Tryz.prog 82 #[v,.int .i64 x] w fun e w'=>∃b:Bool,e=.returned (.tuple #[.int .i64 ((l.countP fun a=>decide (a<x):Nat):Int),.bool b])∧Below w.heap.size w w':=by
 have h':=h;obtain⟨_,⟨rfl,h0⟩ | ⟨g,cap,cur,rfl,hb,hg,hn,hc,hss,ht⟩⟩:=h
 ·have e:l=[]:=List.eq_nil_of_length_eq_zero h0;subst e;refine (Tryz.slices_BinarySearch_int_empty none 0 x w).mono ?_;rintro e w' ⟨rfl,rfl⟩;exact⟨false,rfl,Below.refl _ _⟩
 ·have h0:=Tryz.slices_BinarySearch_int g 0 l.length cap l x w (Nat.le_refl _) (by omega) (fun j hj=>by
   have:=World.ownsRow.cells h' (g:=g) rfl j (.int .i64 (l.getD j 0)) (by simp[ivL,hj]);rw[adp] at this
   simpa using this) (by rw[List.take_length];exact hs.imp (fun h=>Int.le_of_lt h))
  rw[List.take_length] at h0;refine h0.mono ?_;rintro e w' ⟨rfl,q,rfl⟩;exact⟨_,rfl,zbv (Below.refl _ _) q⟩
theorem zsa (w:World)(base:Nat)(v:Value)(l:List Int)(i j:Nat)(h:Oi w base v l)(hij:i<j)(hj:j≤l.length)(hl:l.length≤1000000):Calls Tryz.prog 83 #[v,.int .i64 i,.int .i64 j] w fun e w'=>∃v',e=.returned v'∧Oi w' base v' (l.take i++l.drop j)∧w.grownBy w' v.ownBlock:=by
 have h':=h;obtain⟨_,⟨rfl,h0⟩ | ⟨g,cap,cur,rfl,hb,hg,hn,hc,hs,ht⟩⟩:=h
 ·omega
 ·have hH:=holds_of_blockI (ss:=l) hg (by rw[Nat.mul_one] at ht;exact ht)
  refine (Tryz.slices_Delete_int g 0 cap i j l w hH hn (by unfold maxLen at hc;omega) (by omega) hj).mono ?_
  rintro e w' ⟨rfl,q,rfl⟩;have hk:(l.take i++l.drop j).length=l.length - (j - i):=by simp;omega
  refine⟨_,rfl,?_,?_⟩
  ·have:=Lib.ownsRow_putRow (enc:=Value.int .i64) (q:=q) (k:=l.length - (j - i)) (ys:=l.take i++l.drop j++List.replicate (j - i) 0) (zs:=l) (cap:=cap) (g:=g) (w:=w) (base:=base) (e:=3) (n:=l.length) h' (by rw[List.length_append,hk,List.length_replicate];omega) (by omega)
   rw[List.take_left' hk] at this;unfold Oi;rw[hk];exact this
  ·have:=grownBy_sortedI (w:=w) (g:=g) (n:=q) (os:=#[]) (l.take i++l.drop j++List.replicate (j - i) 0).toArray;rw[Sort.grow_empty] at this;exact this
theorem zoa (f:Cf)(g:Rw Bool)(w:World)(hf:f.At w)(hg:BlAt w g)(hn:f.cd.len≤100000):Calls Tryz.prog 81 #[.agg f.vs.toArray,.slice g.ao g.len g.cap] w fun e w'=>∃v,e=.returned v∧Oi w' w.heap.size v (trM (f.rs g) f.cd.len)∧Below w.heap.size w w':=by
 have H1:Hid (Wv w f (.slice none 0 0) [] (w.alloc (.cells f.vs.toArray 44))):=⟨Fb.new w f,Oi.nil _ _⟩;have HD:=hyd (show f.At w∧BlAt w g from ⟨hf,hg⟩);clear hf hg;generalize hw:w.alloc (.cells f.vs.toArray 44)=u1 at *;go_enter Tryz.func81,Tryz.ntmps81
 go_upto_region 1 with fail
 clear hw;have c14:=H1.out.x.b.cell 14 rfl;go_wp2;clear c14;go_loopw [5,10] (fun v i wr=>∃(j:Nat),j≤f.cd.len∧i=.int .i64 j∧Wv w f v (trM (f.rs g) j) wr) (fun _ i _=>f.cd.len - (intOf i).toNat)
 case atStart=>exact⟨0,Nat.zero_le _,rfl,H1.out⟩
 case round =>
  clear H1;obtain⟨j,hj,rfl,hB⟩:=hrel;have HB:=hyd hB;clear hB;by_cases hlt:j<f.cd.len
  ·have ij:(j:Int)<f.cd.len:=by omega
   have rF:=HB.out.x.b.range;have h0:=zgp f g j wr (Cf.At.kept HB.out.x.bl HD.out.1) (BlAt.kept HD.out.2 HB.out.x.bl) hlt;have HT:=hyd (zu0 (f.rs g) j);have hlen:=hyd (zkn (f.rs g) j);generalize f.rs g j=rb at *;go_wp2_with (refine wpList_load_mid rfl 44 (.tmp 2) rfl w.heap.size 0 (by kernel_rfl) f.vs _ rF Tryz.underlying44 rfl (by kernel_rfl) ?_)
   refine h0.mono ?_;rintro _ u2 ⟨rfl,hb⟩;have H2:=hyd (HB.out.kept hb);clear h0 hb HB rF;cases rb
   ·have HE:Hid (trM (f.rs g) (j+1)=trM (f.rs g) j):=by show _=_;rw[HT.out];simp
    clear HT;go_wp2;go_roundw
    case rel=>exact⟨j+1,by omega,by go_num,by rw[HE.out];exact H2.out⟩
    case measure=>simp[intOf];omega
   ·have HE:Hid (trM (f.rs g) (j+1)=trM (f.rs g) j++[(j:Int)]):=by show _=_;rw[HT.out];simp
    clear HT;go_wp2_with (at_builtin;refine zef rfl _ _ rfl (w.heap.size+1) u5 (trM (f.rs g) j) (j:Int) rfl H2.out.o rfl (by have:=hlen.out;omega) H2.out.size ?_;intro v6 w6 h6 g6;have H3:=hyd (H2.out.tw_ h6 g6);clear h6 g6 H2);go_roundw
    case rel=>exact⟨j+1,by omega,by go_num,by rw[HE.out];exact H3.out⟩
    case measure=>simp[intOf];omega
  ·have ij:¬(j:Int)<f.cd.len:=by omega
   have HE:Hid (trM (f.rs g) j=trM (f.rs g) f.cd.len):=by show _=_;rw[show j=f.cd.len by omega]
   go_wp2;go_ret;exact⟨_,rfl,by rw[←HE.out];exact zgc HB.out.o (by omega),HB.out.x.bl⟩
theorem zax {T:TypeId}{d:TypeDesc}{fn:Func}{tmps:Array Value}{k B:Nat}{vs:List Value}{w:World}(hu:Tryz.prog.underlying T=some d)(hd:d.isRow=true)(hi:(Tryz.prog.info? T).map (·.size)=some vs.length)(hf:fn.results=#[.cell k T])(ht:tmps.getD k undef=.pointer (some ⟨B,0,none⟩))(h:w.rangeAt B 0 vs):(results fn tmps).run Tryz.prog w=.ok (.agg vs.toArray) w:=by
 have h:(loadVar T ⟨B,0,none⟩).run Tryz.prog w=.ok (.agg vs.toArray) w:=run_loadAt_mid w B 0 T vs d h hu hd hi;have ha:(asAddr (tmps[k]?.getD undef)).run Tryz.prog w=.ok ⟨B,0,none⟩ w:=by rw[show tmps[k]?.getD undef=.pointer (some ⟨B,0,none⟩) by simpa using ht];rfl
 unfold results;rw[hf];simp[ha,h]
theorem zkg {w:World}{base z n k:Nat}{e:TypeId}{v:Value}{xs:List Value}(h:w.ownsRow base e z v n xs)(hk:v.ownBlock=some k):∃cur fr,w.heap[k]?=some (.cells cur e fr):=by
 obtain⟨_,⟨rfl,_⟩ | ⟨g,cap,cur,rfl,hg,hh,_⟩⟩:=h
 ·cases hk
 ·have:g=k:=by simpa [Value.ownBlock] using hk
  subst this;exact⟨_,_,hh⟩
theorem zbl {w:World}{base z n B:Nat}{e t:TypeId}{v:Value}{xs c:List Value}(h:w.ownsRow base e z v n xs)(hb:Blk w B c t)(hne:e≠t):some B≠v.ownBlock:=fun hk=>by
 obtain⟨cur,fr,h1⟩:=zkg h hk.symm;unfold Blk at hb;rw[hb] at h1
 injection h1 with h1
 injection h1 with _ h2 _
 exact hne h2.symm
theorem zjk {w:World}{base z n base' z' n' k:Nat}{e t:TypeId}{v v':Value}{xs xs':List Value}(h:w.ownsRow base e z v n xs)(h':w.ownsRow base' t z' v' n' xs')(hne:e≠t)(hk:v.ownBlock=some k):v'.ownBlock≠some k:=fun hk'=>by
 obtain⟨cur,fr,h1⟩:=zkg h hk;obtain⟨cur',fr',h2⟩:=zkg h' hk';rw[h1] at h2
 injection h2 with h2
 injection h2 with _ h2 _
 exact hne h2
theorem zf3 {w w':World}{base z n:Nat}{e:TypeId}{v:Value}{xs:List Value}{r:Option Nat}(h:w.ownsRow base e z v n xs)(hg:w.grownBy w' r)(hr:∀k,v.ownBlock=some k→some k≠r):w'.ownsRow base e z v n xs:=by
 have hl:=fun k hk=>(owb h (k:=k) hk).2;obtain⟨h0,h⟩:=h;refine⟨h0,?_⟩;rcases h with ⟨rfl,hn⟩ | ⟨g,cap,cur,rfl,hb,hh,hx⟩
 ·exact Or.inl ⟨rfl,hn⟩
 ·exact Or.inr ⟨g,cap,cur,rfl,hb,(hg.block g (hl g rfl) (hr g rfl)).trans hh,hx⟩
theorem zrq {w:World}{base b' z n:Nat}{e:TypeId}{v:Value}{xs:List Value}(h:w.ownsRow base e z v n xs)(hb:b'≤base):w.ownsRow b' e z v n xs:=by
 obtain⟨h0,h1 | ⟨g,cap,cur,h1,h2,h3⟩⟩:=h
 ·exact⟨h0,Or.inl h1⟩
 ·exact⟨h0,Or.inr ⟨g,cap,cur,h1,by omega,h3⟩⟩
def jvs (c:Kl)(f:Cf)(g:Rw Bool):List Value:=[.slice c.n.ao c.n.len c.n.cap,.slice c.g.ao c.g.len c.g.cap,.slice c.fs.ao c.fs.len c.fs.cap]++(f.vs++[.int .i64 (botI c.n c.g),.slice g.ao g.len g.cap])
structure Jb (c:Kl)(f:Cf)(g:Rw Bool)(BJ:Nat)(u:World):Prop where
 b:Blk u BJ (jvs c f g) 78
 c:c.At u
 f:f.At u
 g:BlAt u g
theorem Jb.kept {c:Kl}{f:Cf}{g:Rw Bool}{BJ:Nat}{u u':World}(h:Jb c f g BJ u)(hb:Below u.heap.size u u'):Jb c f g BJ u':=⟨h.b.kept hb,Kl.At.kept hb h.c,Cf.At.kept hb h.f,h.g.kept hb⟩
theorem zct (c:Kl)(f:Cf)(g:Rw Bool)(BJ:Nat)(s t:Ty)(w:World)(h:Jb c f g BJ w)(hs:s.At w)(ht:t.At w)(hp:s.pn≤1000):Calls Tryz.prog 97 #[.pointer (some ⟨BJ,0,none⟩),.agg s.vs.toArray,.agg t.vs.toArray] w fun e w'=>e=.returned (.bool (blw c.n c.g s t))∧Below w.heap.size w w':=by
 have A0:=za9 [.cells s.vs.toArray 38,.cells t.vs.toArray 38] w;have A1:=zbe [.cells s.vs.toArray 38,.cells t.vs.toArray 38] w;simp only[List.foldl] at A0 A1;have H1:=hyd (show (Below w.heap.size w _∧Jb c f g BJ _)∧Blk _ w.heap.size s.vs 38∧Blk _ (w.heap.size+1) t.vs 38 from ⟨⟨A0,h.kept A0⟩,A1 0 (by simp),A1 1 (by simp)⟩);have HT:=hyd (show s.At _∧t.At _ from ⟨hs.kept A0,ht.kept A0⟩);have HE:Hid (blw c.n c.g s t=(s.same t||belB c.n c.g s t)):=rfl;generalize blw c.n c.g s t=R at *;clear A0 A1 h hs ht;go_enter Tryz.func97,Tryz.ntmps97
 go_upto_region 1 with fail
 generalize ((w.alloc (.cells s.vs.toArray 38)).alloc (.cells t.vs.toArray 38))=u1 at *;have hS:∀x:Gr u1,Calls Tryz.prog 136 #[.agg s.vs.toArray,.agg t.vs.toArray] x.w fun e w'=>e=.returned (.bool (s.same t))∧Below x.w.heap.size x.w w':=fun x=>zln s t x.w (HT.out.1.kept x.bl) (HT.out.2.kept x.bl) hp;have hB:∀x:Gr u1,Calls Tryz.prog 137 #[.agg #[.slice c.n.ao c.n.len c.n.cap,.slice c.g.ao c.g.len c.g.cap],.agg s.vs.toArray,.agg t.vs.toArray] x.w fun e w'=>e=.returned (.bool (belB c.n c.g s t))∧Below x.w.heap.size x.w w':=fun x=>zp4 c.n c.g s t x.w (H1.out.1.2.c.n.kept x.bl) (H1.out.1.2.c.g.kept x.bl) (HT.out.1.kept x.bl) (HT.out.2.kept x.bl);have p0:=fun x:Gr u1=>x.cell (H1.out.1.2.b.cell 0 rfl);have p1:=fun x:Gr u1=>x.cell (H1.out.1.2.b.cell 1 rfl);have rS:∀u,(∃x:Gr u1,u=x.w)→u.rangeAt w.heap.size 0 s.vs:=fun _ hC=>by obtain⟨x,rfl⟩:=hC;exact zaf H1.out.2.1.range (Gr.bl x)
 have rT:∀u,(∃x:Gr u1,u=x.w)→u.rangeAt (w.heap.size+1) 0 t.vs:=fun _ hC=>by obtain⟨x,rfl⟩:=hC;exact zaf H1.out.2.2.range (Gr.bl x)
 have hNE:Nonempty (Gr u1):=⟨⟨_,Below.refl _ _⟩⟩;generalize s.same t=b1 at *;generalize belB c.n c.g s t=b2 at *;refine zah (by kernel_rfl) (by kernel_rfl) ?_;go_big_quiet_want;refine zad 38 (.tmp 4) rfl w.heap.size 0 (by kernel_rfl) s.vs _ rS Tryz.underlying38 rfl (by kernel_rfl) ?_;simp only[Act.put,zA,zB,zC];go_big_quiet_on;go_big_quiet_want;refine zad 38 (.tmp 5) rfl (w.heap.size+1) 0 (by kernel_rfl) t.vs _ rT Tryz.underlying38 rfl (by kernel_rfl) ?_;simp only[Act.put,zA,zB,zC];go_big_quiet_on;go_big_quiet_step ((go_at_call 136;exact Calls.gr _ (hS _)))
 go_big_quiet_step (fail)
 cases b1
 ·have HE2:Hid (R=b2):=HE.out;iterate 5 go_big_quiet_step (fail)
  go_big_quiet_want;refine zad 38 (.tmp 4) rfl w.heap.size 0 (by kernel_rfl) s.vs _ rS Tryz.underlying38 rfl (by kernel_rfl) ?_;simp only[Act.put,zA,zB,zC];go_big_quiet_on;go_big_quiet_want;refine zad 38 (.tmp 5) rfl (w.heap.size+1) 0 (by kernel_rfl) t.vs _ rT Tryz.underlying38 rfl (by kernel_rfl) ?_;simp only[Act.put,zA,zB,zC];go_big_quiet_on;go_big_quiet_step ((go_at_call 137;exact Calls.gr _ (hB _)))
  iterate 2 go_big_quiet_step (fail)
  refine wpQuiet_nil ?_;rintro y1 ⟨xg,rfl⟩;have Bg:=xg.bl;generalize xg.w=y1 at Bg ⊢;clear xg hS hB p0 p1 rS rT hNE HE;go_wp2;go_ret;exact⟨zab HE2.out.symm,Below.next H1.out.1.1 Bg⟩
 ·have HE2:Hid (R=true):=HE.out;iterate 10 go_big_quiet_step (fail)
  refine wpQuiet_nil ?_;rintro y1 ⟨xg,rfl⟩;have Bg:=xg.bl;generalize xg.w=y1 at Bg ⊢;clear xg hS hB p0 p1 rS rT hNE HE;go_wp2;go_ret;exact⟨zab HE2.out.symm,Below.next H1.out.1.1 Bg⟩
theorem zbq (c:Kl)(f:Cf)(g:Rw Bool)(BJ:Nat)(a b:Int)(w:World)(h:Jb c f g BJ w):Calls Tryz.prog 144 #[.pointer (some ⟨BJ,0,none⟩),.int .i64 a,.int .i64 b] w fun e w'=>e=.returned (.int .i64 (zan c.n c.g a b))∧Below w.heap.size w w':=by
 have c0:=h.b.cell 0 rfl;have c1:=h.b.cell 1 rfl;have h0:=zup c.n c.g a b w h.c.n h.c.g;clear h;generalize zan c.n c.g a b=R at *;go_enter Tryz.func144,Tryz.ntmps144
 go_wp2_with fail
 refine h0.mono ?_;rintro _ w1 ⟨rfl,hb1⟩;go_wp2;go_ret;exact⟨rfl,hb1⟩
theorem zj1 (c:Kl)(f:Cf)(g:Rw Bool)(BJ:Nat)(k:Int)(w:World)(h:Jb c f g BJ w):Calls Tryz.prog 186 #[.pointer (some ⟨BJ,0,none⟩),.int .i64 k] w fun e w'=>e=.returned (.agg (zaa k (botI c.n c.g)).vs.toArray)∧Below w.heap.size w w':=by
 have B0:=zac w (.cells #[.int .i64 0,.int .i64 0,.slice none 0 0,.int .i64 0,.int .i64 0] 38);have bZ:Blk (w.alloc (.cells #[.int .i64 0,.int .i64 0,.slice none 0 0,.int .i64 0,.int .i64 0] 38)) w.heap.size [.int .i64 0,.int .i64 0,.slice none 0 0,.int .i64 0,.int .i64 0] 38:=Blk.new w _ _;have c21:=(h.kept B0).b.cell 21 rfl;clear h;go_enter Tryz.func186,Tryz.ntmps186
 go_wp2_with (refine zag rfl rfl 38 (.tmp 4) (.tmp 10) rfl w.heap.size (zaa k (botI c.n c.g)).vs (by kernel_rfl) (by kernel_rfl) rfl bZ rfl (by kernel_rfl) ?_;intro w2 W2);have rB:=W2.blk.range;exact bodyPost_ret (v:=.agg (zaa k (botI c.n c.g)).vs.toArray) (zax (vs:=(zaa k (botI c.n c.g)).vs) Tryz.underlying38 rfl (by kernel_rfl) Tryz.results186 rfl rB) rfl ⟨rfl,W2.below (by omega) B0⟩
theorem zr1 (k:Int)(t:Ty)(w:World):Calls Tryz.prog 187 #[.int .i64 k,.agg t.vs.toArray] w fun e w'=>e=.returned (.agg (zb0 k t).vs.toArray)∧Below w.heap.size w w':=by
 have H:=zbe [.cells t.vs.toArray 38,.cells zTv.toArray 38] w;have B0:=za9 [.cells t.vs.toArray 38,.cells zTv.toArray 38] w;simp only[List.foldl] at H B0;have bT:Blk _ w.heap.size t.vs 38:=H 0 (by simp);have bZ:Blk _ (w.heap.size+1) zTv 38:=H 1 (by simp);clear H;unfold zTv at B0 bT bZ;have c0:=bT.cell 0 (v:=.int .i64 t.k) rfl;cases hq:(t.k != k)
 ·have HG:Hid (zb0 k t=t):=by show _=_;unfold zb0;rw[hq];rfl
  rw[HG.out];go_enter Tryz.func187,Tryz.ntmps187
  go_wp2_with (first | (refine wpList_load_mid rfl 38 (.tmp 3) rfl w.heap.size 0 (by kernel_rfl) t.vs _ bT.range Tryz.underlying38 rfl (by kernel_rfl) ?_) | (refine zag rfl rfl 38 (.tmp 4) (.tmp 10) rfl (w.heap.size+1) t.vs (by kernel_rfl) (by kernel_rfl) t.vs_one bZ rfl (by kernel_rfl) ?_;intro w2 W2));have rB:=W2.blk.range;exact bodyPost_ret (v:=.agg t.vs.toArray) (zax (vs:=t.vs) Tryz.underlying38 rfl (by kernel_rfl) Tryz.results187 rfl rB) rfl ⟨rfl,W2.below (by omega) B0⟩
 ·have HG:Hid (zb0 k t=zaa 0 0):=by show _=_;unfold zb0;rw[hq];rfl
  rw[HG.out];go_enter Tryz.func187,Tryz.ntmps187
  go_wp2_with (refine zag rfl rfl 38 (.tmp 4) (.tmp 9) rfl (w.heap.size+1) (zaa 0 0).vs (by kernel_rfl) (by kernel_rfl) rfl bZ rfl (by kernel_rfl) ?_;intro w2 W2);have rB:=W2.blk.range;exact bodyPost_ret (v:=.agg (zaa 0 0).vs.toArray) (zax (vs:=(zaa 0 0).vs) Tryz.underlying38 rfl (by kernel_rfl) Tryz.results187 rfl rB) rfl ⟨rfl,W2.below (by omega) B0⟩
theorem zbc (D:Nat)(c:Kl)(f:Cf)(g:Rw Bool)(BJ:Nat)(t:Ty)(a:Int)(w:World)(h:Jb c f g BJ w)(ht:t.At w)(hD:D≤w.heap.size):Calls Tryz.prog 140 #[.pointer (some ⟨BJ,0,none⟩),.agg t.vs.toArray,.int .i64 a] w (zei D (zak c.n c.g t a) w):=by
 have H:=zbe [.cells t.vs.toArray 38,.cells zTv.toArray 38] w;have B0:=za9 [.cells t.vs.toArray 38,.cells zTv.toArray 38] w;have SZ:=zej [.cells t.vs.toArray 38,.cells zTv.toArray 38] w;simp only[List.foldl,List.length] at H B0 SZ;have H1:=hyd (show (Below w.heap.size w _∧Jb c f g BJ _)∧Blk _ w.heap.size t.vs 38∧Blk _ (w.heap.size+1) zTv 38 from ⟨⟨B0,h.kept B0⟩,H 0 (by simp),H 1 (by simp)⟩);have HT:=hyd (show (D≤w.heap.size∧_=w.heap.size+2)∧t.At _ from ⟨⟨hD,SZ⟩,ht.kept B0⟩);unfold zTv at *;have p0:=H1.out.1.2.b.cell 0 rfl;have p1:=H1.out.1.2.b.cell 1 rfl;clear h ht H B0 SZ hD;go_enter Tryz.func140,Tryz.ntmps140
 go_upto_region 1 with fail
 generalize (w.alloc (.cells t.vs.toArray 38)).alloc (.cells #[.int .i64 0,.int .i64 0,.slice none 0 0,.int .i64 0,.int .i64 0] 38)=u1 at *;have q0:=fun x:Gr u1=>x.cell p0;have q1:=fun x:Gr u1=>x.cell p1;have rT:∀u,(∃x:Gr u1,u=x.w)→u.rangeAt w.heap.size 0 t.vs:=fun _ hC=>by obtain⟨x,rfl⟩:=hC;exact zaf H1.out.2.1.range (Gr.bl x)
 have hNE:Nonempty (Gr u1):=⟨⟨_,Below.refl _ _⟩⟩;refine zat 7 (by kernel_rfl) (by kernel_rfl) ?_;simp only[List.take,List.drop];iterate 5 go_big_quiet_step (fail)
 go_big_quiet_want;refine zad 38 (.tmp 4) rfl w.heap.size 0 (by kernel_rfl) t.vs _ rT Tryz.underlying38 rfl (by kernel_rfl) ?_;simp only[Act.put,zA,zB,zC];go_big_quiet_on;go_big_quiet_step (fail)
 refine wpQuiet_nil ?_;rintro y1 ⟨xg,rfl⟩;have Bg:=xg.bl;generalize xg.w=y1 at Bg ⊢;have h0:=zq6 D c.n c.g t a y1 (H1.out.1.2.c.n.kept Bg) (H1.out.1.2.c.g.kept Bg) (HT.out.2.kept Bg);have H2:=hyd (show (Below w.heap.size w y1∧Blk y1 (w.heap.size+1) [.int .i64 0,.int .i64 0,.slice none 0 0,.int .i64 0,.int .i64 0] 38)∧D≤w.heap.size∧w.heap.size+2≤y1.heap.size from ⟨⟨Below.next H1.out.1.1 Bg,H1.out.2.2.kept Bg⟩,HT.out.1.1,by have:=HT.out.1.2;have:=Bg.size;omega⟩)
 clear xg Bg H1 HT p0 p1 q0 q1 rT hNE;generalize zak c.n c.g t a=R at *;go_wp2_with fail
 refine h0.mono ?_;rintro _ y2 ⟨u,rfl,uA,uB,uS,hb⟩;have bZ:=H2.out.1.2.kept hb;go_wp2_with (refine zag rfl rfl 38 (.tmp 6) (.tmp 14) rfl (w.heap.size+1) u.vs (by kernel_rfl) (by kernel_rfl) u.vs_one bZ rfl (by kernel_rfl) ?_;intro w2 W2);have rB:=W2.blk.range;have HX:=H2.out.2;exact bodyPost_ret (v:=.agg u.vs.toArray) (zax (vs:=u.vs) Tryz.underlying38 rfl (by kernel_rfl) Tryz.results140 rfl rB) rfl ⟨u,rfl,uA.wrote uB W2 (by omega) (by omega),uB.mono (fun b h=>by omega),uS,W2.below (by omega) (Below.next H2.out.1.1 hb)⟩
def svs (v:Vp)(BJ:Nat)(tT st sl:Ty)(k p:Int):List Value:=[.pointer (some ⟨BJ,0,none⟩),.int .i64 v.p,.int .i64 v.env,.int .i64 v.op,.int .i64 v.a,.int .i64 v.ins.t.k,.int .i64 v.ins.t.l,.slice v.ins.t.ao v.ins.t.len v.ins.t.cap,.int .i64 v.ins.t.h,.int .i64 v.ins.t.e,.slice tT.ao tT.len tT.cap,.slice st.ao st.len st.cap,.slice sl.ao sl.len sl.cap,.int .i64 k,.int .i64 p]
structure Sr (w0:World)(v:Vp)(g:Rw Bool)(BJ BS:Nat)(tT st sl:Ty)(k p:Int)(u:World):Prop where
 bl:Below w0.heap.size w0 u
 jo:Jb v.c v.f g BJ w0
 pl:v.p<v.f.cd.len
 pp:v.f.pt.len=v.f.cd.len
 b:Blk u BS (svs v BJ tT st sl k p) 170
 t:tT.At w0
 tl:tT.len=v.need
 tp:tT.ps=v.tk
theorem Sr.kept {w0:World}{v:Vp}{g:Rw Bool}{BJ BS:Nat}{tT st sl:Ty}{k p:Int}{u u':World}(h:Sr w0 v g BJ BS tT st sl k p u)(hb:Below u.heap.size u u'):Sr w0 v g BJ BS tT st sl k p u':=⟨Below.next h.bl hb,h.jo,h.pl,h.pp,h.b.kept hb,h.t,h.tl,h.tp⟩
theorem Sr.j {w0:World}{v:Vp}{g:Rw Bool}{BJ BS:Nat}{tT st sl:Ty}{k p:Int}{u:World}(h:Sr w0 v g BJ BS tT st sl k p u):Jb v.c v.f g BJ u:=h.jo.kept h.bl
theorem Sr.put {w0:World}{v:Vp}{g:Rw Bool}{BJ BS:Nat}{tT st sl st' sl':Ty}{k p k' p':Int}{u u':World}(h:Sr w0 v g BJ BS tT st sl k p u)(hb:Below w0.heap.size w0 u')(hB:Blk u' BS (svs v BJ tT st' sl' k' p') 170):Sr w0 v g BJ BS tT st' sl' k' p' u':=⟨hb,h.jo,h.pl,h.pp,hB,h.t,h.tl,h.tp⟩
theorem Sr.tk0 {w0:World}{v:Vp}{g:Rw Bool}{BJ BS:Nat}{tT st sl:Ty}{k p:Int}{u:World}(h:Sr w0 v g BJ BS tT st sl k p u){i:Nat}(hi:i<v.need):(v.tk i).At w0:=by
 have:=h.t.part (i:=i) (by rw[h.tl];exact hi)
 rw[h.tp] at this;exact this
theorem Sr.tkA {w0:World}{v:Vp}{g:Rw Bool}{BJ BS:Nat}{tT st sl:Ty}{k p:Int}{u:World}(h:Sr w0 v g BJ BS tT st sl k p u){i:Nat}(hi:i<v.need):(v.tk i).At u:=(h.tk0 hi).kept h.bl
theorem Sr.row {w0:World}{v:Vp}{g:Rw Bool}{BJ BS:Nat}{tT st sl:Ty}{k p:Int}{u:World}(h:Sr w0 v g BJ BS tT st sl k p u){i:Nat}(hi:i<v.need):u.rangeAt tT.b (tT.o+i*5) (v.tk i).vs:=by
 have:=zl7 ((h.t.cells (i:=i) (by rw[h.tl];exact hi)))
 rw[h.tp] at this;exact zaf this h.bl
theorem Sr.nil {w0:World}{v:Vp}{g:Rw Bool}{BJ BS:Nat}{tT st sl:Ty}{k p:Int}{u:World}(h:Sr w0 v g BJ BS tT st sl k p u){i:Nat}(hi:i<v.need):tT.ao=some ⟨tT.b,tT.o,none⟩:=h.t.nil (by rw[h.tl];omega)
theorem zbm {t:Ty}{u:World}(h:t.At u){i:Nat}(hi:i<t.len):u.rangeAt t.b (t.o+i*5) (t.ps i).vs:=zl7 (h.cells hi)
theorem zap {T:TypeId}{d:TypeDesc}{fn:Func}{tmps:Array Value}{k m B:Nat}{vs:List Value}{x:Value}{w:World}(hu:Tryz.prog.underlying T=some d)(hd:d.isRow=true)(hi:(Tryz.prog.info? T).map (·.size)=some vs.length)(hf:fn.results=#[.cell k T,.tmp m])(ht:tmps.getD k undef=.pointer (some ⟨B,0,none⟩))(hx:tmps.getD m undef=x)(h:w.rangeAt B 0 vs):(results fn tmps).run Tryz.prog w=.ok (.tuple #[.agg vs.toArray,x]) w:=by
 have h:(loadVar T ⟨B,0,none⟩).run Tryz.prog w=.ok (.agg vs.toArray) w:=run_loadAt_mid w B 0 T vs d h hu hd hi;have ha:(asAddr (tmps[k]?.getD undef)).run Tryz.prog w=.ok ⟨B,0,none⟩ w:=by rw[show tmps[k]?.getD undef=.pointer (some ⟨B,0,none⟩) by simpa using ht];rfl
 have hx':tmps[m]?.getD undef=x:=by simpa using hx
 unfold results;rw[hf];simp[ha,h,hx']
def TkR (D:Nat)(r:Ty)(k:Int)(w:World)(e:Ending)(w':World):Prop:=∃u:Ty,e=.returned (.tuple #[.agg u.vs.toArray,.int .i64 k])∧u.At w'∧u.Blk (fun b=>b<D∨w.heap.size≤b)∧u.same r=true∧Below w.heap.size w w'
theorem zd4 (Q:Nat→Prop)(k l:Int):(zaa k l).Blk Q:=⟨fun h=>absurd h (Nat.lt_irrefl _),fun _ h=>absurd h (Nat.not_lt_zero _)⟩
theorem zif {D:Nat}{r:Ty}{w w':World}(hr:r=zaa 0 0)(hb:Below w.heap.size w w'):zei D r w (.returned (.agg (zaa 0 0).vs.toArray)) w':=⟨zaa 0 0,rfl,zav _ _ _,zd4 _ _ _,by rw[hr];exact zaj _,hb⟩
def zT5:List Value:=[.int .i64 0,.int .i64 0,.slice none 0 0,.int .i64 0,.int .i64 0]
theorem alloc_ty5 (w:World):(Instr.alloc 38 true (.tuple #[])).run Tryz.prog w=.ok (.pointer (some ⟨w.heap.size,0,none⟩)) (w.alloc (.cells zT5.toArray 38)):=by
 have hz:(Tryz.prog.info? 38).map (·.zero)=some (some (.agg zT5.toArray)):=by kernel_rfl
 cases hq:Tryz.prog.info? 38 with
 | none=>rw[hq] at hz;simp at hz
 | some i =>
  rw[hq] at hz;simp at hz
  simp[Instr.alloc,newVar,newRow,zeroValue,typeInfo,hq,hz,Value.cells,zT5]
theorem zlm (w0:World)(v:Vp)(g:Rw Bool)(BJ BS:Nat)(tT st sl:Ty)(k p:Int)(i:Nat)(w:World)(h:Sr w0 v g BJ BS tT st sl k p w)(hn:0<v.need)(hi:i<2)(hfm:(v.tk 0).k=3→(v.tk 0).len=2):Calls Tryz.prog 188 #[.pointer (some ⟨BS,0,none⟩),.int .i64 (i:Nat)] w (zei w0.heap.size (v.sideT i) w):=by
 have B0:=zac w (.cells #[.int .i64 0,.int .i64 0,.slice none 0 0,.int .i64 0,.int .i64 0] 38);have bZ:Blk (w.alloc (.cells #[.int .i64 0,.int .i64 0,.slice none 0 0,.int .i64 0,.int .i64 0] 38)) w.heap.size zT5 38:=Blk.new w _ _;have H1:=hyd (show (Sr w0 v g BJ BS tT st sl k p (w.alloc (.cells #[.int .i64 0,.int .i64 0,.slice none 0 0,.int .i64 0,.int .i64 0] 38))∧Below w.heap.size w (w.alloc (.cells #[.int .i64 0,.int .i64 0,.slice none 0 0,.int .i64 0,.int .i64 0] 38)))∧Blk (w.alloc (.cells #[.int .i64 0,.int .i64 0,.slice none 0 0,.int .i64 0,.int .i64 0] 38)) w.heap.size zT5 38∧w0.heap.size≤w.heap.size from ⟨⟨h.kept B0,B0⟩,bZ,h.bl.size⟩);have HN:=hyd hn;have c10:=H1.out.1.1.b.cell 10 rfl;have r0:=H1.out.1.1.row hn;rw[H1.out.1.1.nil hn] at c10;have i0:(0:Int)<tT.len:=by rw[h.tl];omega
 clear B0 bZ h hn;have HE:Hid (v.sideT i=if ((v.tk 0).k != 3)=true then zaa 0 0 else zak v.c.n v.c.g ((v.tk 0).ps i) (v.tk 0).l):=rfl;have HF:=hyd hfm;clear hfm;generalize v.sideT i=R at *;have HA:=hyd (H1.out.1.1.tkA HN.out);have HA0:=hyd (H1.out.1.1.tk0 HN.out);go_enter Tryz.func188,Tryz.ntmps188
 go_upto_region 1 with fail
 generalize w.alloc (.cells #[.int .i64 0,.int .i64 0,.slice none 0 0,.int .i64 0,.int .i64 0] 38)=u1 at *;go_upto_region 2 with (first | (refine wpList_load_mid rfl 38 (.tmp 10) rfl tT.b (tT.o+0*5) (by kernel_rfl) (v.tk 0).vs _ r0 Tryz.underlying38 rfl (by kernel_rfl) ?_) | (refine zao rfl rfl 38 rfl (.tmp 5) (.tmp 11) rfl zT5 (alloc_ty5 _) rfl (v.tk 0).vs.toArray (by kernel_rfl) (by kernel_rfl) rfl (by kernel_rfl) (by simpa using (v.tk 0).vs_one) ?_))
 generalize v.tk 0=t at *;have B2:=zac u1 (.cells t.vs.toArray 38);have H2:=hyd (show ((Sr w0 v g BJ BS tT st sl k p (u1.alloc (.cells t.vs.toArray 38))∧Below w.heap.size w (u1.alloc (.cells t.vs.toArray 38)))∧Blk (u1.alloc (.cells t.vs.toArray 38)) w.heap.size zT5 38∧w0.heap.size≤w.heap.size∧w.heap.size<u1.heap.size)∧Blk (u1.alloc (.cells t.vs.toArray 38)) u1.heap.size t.vs 38∧t.At (u1.alloc (.cells t.vs.toArray 38)) from ⟨⟨⟨H1.out.1.1.kept B2,Below.next H1.out.1.2 B2⟩,H1.out.2.1.kept B2,H1.out.2.2,H1.out.2.1.lt⟩,Blk.new u1 t.vs 38,HA.out.kept B2⟩);clear B2 H1 HA r0 c10 i0;generalize u1.alloc (.cells t.vs.toArray 38)=u2 at *;generalize u1.heap.size=B5 at *;have d0:=H2.out.2.1.cell 0 rfl;by_cases hk:t.k=3
 ·have e1:(t.k != 3)=false:=by simpa using hk
  have HL:Hid (t.len=2):=HF.out hk;have HE2:Hid (R=zak v.c.n v.c.g (t.ps i) t.l):=by show _=_;rw[HE.out,e1];rfl
  have HI:=hyd (show i<t.len by rw[HL.out];exact hi)
  have ii:(i:Int)<t.len:=by have:=HI.out;omega
  have ig:(0:Int)≤i:=by omega
  clear hk HE HF hi;go_wp2_with fail
  go_upto_region 4 with fail
  clear e1 d0;have q0:=fun x:Gr u2=>x.cell (H2.out.1.1.1.b.cell 0 rfl);have q1:=fun x:Gr u2=>x.cell (H2.out.2.1.cell 1 rfl);have q2:∀x:Gr u2,x.w.cell? ⟨B5,2,none⟩=some (.slice (some ⟨t.b,t.o,none⟩) t.len t.cap):=fun x=>x.cell (by rw[←H2.out.2.2.nil (by rw[HL.out];omega)];exact H2.out.2.1.cell 2 rfl)
  have rP:∀u,(∃x:Gr u2,u=x.w)→u.rangeAt t.b (t.o+i*5) (t.ps i).vs:=fun _ hC=>by obtain⟨x,rfl⟩:=hC;exact zaf (zbm H2.out.2.2 HI.out) (Gr.bl x)
  have hNE:Nonempty (Gr u2):=⟨⟨_,Below.refl _ _⟩⟩;refine zat 11 (by kernel_rfl) (by kernel_rfl) ?_;simp only[List.take,List.drop];iterate 8 go_big_quiet_step (fail)
  go_big_quiet_want;refine zad 38 (.tmp 23) rfl t.b (t.o+i*5) (by kernel_rfl) (t.ps i).vs _ rP Tryz.underlying38 rfl (by kernel_rfl) ?_;simp only[Act.put,zA,zB,zC];go_big_quiet_on;iterate 2 go_big_quiet_step (fail)
  refine wpQuiet_nil ?_;rintro y1 ⟨xg,rfl⟩;have Bg:=xg.bl;generalize xg.w=y1 at Bg ⊢;have HA1:=hyd ((H2.out.2.2.part HI.out).kept Bg);have H3:=hyd (show (Sr w0 v g BJ BS tT st sl k p y1∧Below w.heap.size w y1)∧Blk y1 w.heap.size zT5 38∧w0.heap.size≤w.heap.size∧w.heap.size<y1.heap.size from ⟨⟨H2.out.1.1.1.kept Bg,Below.next H2.out.1.1.2 Bg⟩,H2.out.1.2.1.kept Bg,H2.out.1.2.2.1,(H2.out.1.2.1.kept Bg).lt⟩);have h0:=zbc w0.heap.size v.c v.f g BJ (t.ps i) t.l y1 H3.out.1.1.j HA1.out H3.out.1.1.bl.size;rw[←HE2.out] at h0;clear xg Bg H2 q0 q1 q2 rP hNE ii ig;go_wp2_with fail
  refine h0.mono ?_;rintro _ y2 ⟨u,rfl,uA,uB,uS,hb⟩;have bZ:=H3.out.2.1.kept hb;go_wp2_with (refine zag rfl rfl 38 (.tmp 4) (.tmp 27) rfl w.heap.size u.vs (by kernel_rfl) (by kernel_rfl) u.vs_one bZ rfl (by kernel_rfl) ?_;intro w2 W2);have rB:=W2.blk.range;have HX:=H3.out.2.2;exact bodyPost_ret (v:=.agg u.vs.toArray) (zax (vs:=u.vs) Tryz.underlying38 rfl (by kernel_rfl) Tryz.results188 rfl rB) rfl ⟨u,rfl,uA.wrote uB W2 (by omega) (by omega),uB.mono (fun b h=>by omega),uS,W2.below (by omega) (Below.next H3.out.1.2 hb)⟩
 ·have e1:(t.k != 3)=true:=by simpa using hk
  have HE2:Hid (R=zaa 0 0):=by show _=_;rw[HE.out,e1];rfl
  have bZ:=H2.out.1.2.1;clear hk HE HF;go_wp2_with (refine zag rfl rfl 38 (.tmp 4) (.tmp 15) rfl w.heap.size (zaa 0 0).vs (by kernel_rfl) (by kernel_rfl) rfl bZ rfl (by kernel_rfl) ?_;intro w2 W2);have rB:=W2.blk.range;exact bodyPost_ret (v:=.agg (zaa 0 0).vs.toArray) (zax (vs:=(zaa 0 0).vs) Tryz.underlying38 rfl (by kernel_rfl) Tryz.results188 rfl rB) rfl (zif HE2.out (W2.below (by omega) H2.out.1.1.2))
theorem zqp (D:Nat)(n:Strs)(g:Grid)(f:Fn)(w:World)(hn:n.At w)(hg:g.At w)(hf:f.At w) :
  Calls Tryz.prog 190 #[.agg #[.slice n.ao n.len n.cap,.slice g.ao g.len g.cap],.agg #[.int .i64 f.p.k,.int .i64 f.p.l,.slice f.p.ao f.p.len f.p.cap,.int .i64 f.p.h,.int .i64 f.p.e,.int .i64 f.r.k,.int .i64 f.r.l,.slice f.r.ao f.r.len f.r.cap,.int .i64 f.r.h,.int .i64 f.r.e,.slice f.c.ao f.c.len f.c.cap,.int .i64 f.h,.int .i64 f.e,.int .i64 f.sl,.slice f.cd.ao f.cd.len f.cd.cap,.slice f.hd.ao f.hd.len f.hd.cap,.slice f.pt.ao f.pt.len f.pt.cap,.slice f.rg.ao f.rg.len f.rg.cap]] w (zei D (zee n g f) w):=by
 have L0:=(Bl.new w n g).kept (Below.next (zac _ (fnO f)) (zac _ (tyO (zaa 0 0))));have F0:=(Bf.new (w.alloc (latO n g)) f).kept (zac _ (tyO (zaa 0 0)));have R0:=Bx.new ((w.alloc (latO n g)).alloc (fnO f)) (zaa 0 0);have G0:∀i,i<5→(((w.alloc (latO n g)).alloc (fnO f)).alloc (tyO (zaa 0 0))).frozen? ⟨((w.alloc (latO n g)).alloc (fnO f)).heap.size,i,none⟩=false:=fun i _=>zj7 _ _ _ _;have B0:Below w.heap.size w (((w.alloc (latO n g)).alloc (fnO f)).alloc (tyO (zaa 0 0))):=Below.next (Below.next (zac _ _) (zac _ _)) (zac _ _);have S0:w.heap.size+3≤(((w.alloc (latO n g)).alloc (fnO f)).alloc (tyO (zaa 0 0))).heap.size:=by rw[alloc_size,alloc_size,alloc_size];omega
 have E1:(w.alloc (latO n g)).heap.size=w.heap.size+1:=alloc_size _ _;have E2:((w.alloc (latO n g)).alloc (fnO f)).heap.size=w.heap.size+2:=by rw[alloc_size,E1]
 rw[E1] at F0;rw[E2] at G0;have R0':Bx (((w.alloc (latO n g)).alloc (fnO f)).alloc (tyO (zaa 0 0))) (w.heap.size+2) (zaa 0 0):=by rw[←E2];exact R0
 clear R0 E1 E2;unfold latO fnO tyO at *;simp only[zaa,Ty.k,Ty.l,Ty.h,Ty.e,Ty.ao,Ty.len,Ty.cap] at L0 F0 G0 B0 S0 R0';have l0:=L0.c0;have l1:=L0.c1;have H1:=zev n g _ (hn.kept B0) (hg.kept B0);go_enter Tryz.func190,Tryz.ntmps190
 go_wp2_with fail
 refine H1.mono ?_;rintro e w1 ⟨rfl,hb1⟩;have L1:=L0.kept hb1;have F1:=F0.kept hb1;have B1:=Below.next B0 hb1;have S1:=Nat.le_trans S0 hb1.size;have R1:=R0'.kept hb1;have G1:∀i,i<5→w1.frozen? ⟨w.heap.size+2,i,none⟩=false:=fun i hi=>(hb1.frozen (p:=⟨w.heap.size+2,i,none⟩) (by show w.heap.size+2<_;omega)).trans (G0 i hi)
 clear H1 l0 l1 L0 F0 B0 S0 R0' G0 hb1;have hf1:=hf.kept B1;have RW:=zpf w1 f.p f.r hf1.p hf1.r;have BA:=zac w1 (row2 f.p f.r);have BC:=zac (w1.alloc (row2 f.p f.r)) (.cells #[.int .i64 4,.int .i64 (botI n g),.slice (some ⟨w1.heap.size,0,none⟩) 2 2,.int .i64 f.h,.int .i64 f.e] 38);have BB:=Below.next BA BC;have NX:=Bx.new (w1.alloc (row2 f.p f.r)) (.mk 4 (botI n g) f.h f.e (some ⟨w1.heap.size,0,none⟩) w1.heap.size 0 2 2 (fun i=>if i=0 then f.p else f.r));have TA:Ty.At ((w1.alloc (row2 f.p f.r)).alloc (.cells #[.int .i64 4,.int .i64 (botI n g),.slice (some ⟨w1.heap.size,0,none⟩) 2 2,.int .i64 f.h,.int .i64 f.e] 38)) (.mk 4 (botI n g) f.h f.e (some ⟨w1.heap.size,0,none⟩) w1.heap.size 0 2 2 (fun i=>if i=0 then f.p else f.r)):=Ty.At.kept BC (t:=.mk 4 (botI n g) f.h f.e (some ⟨w1.heap.size,0,none⟩) w1.heap.size 0 2 2 (fun i=>if i=0 then f.p else f.r)) RW;have hR:=zhf n g _ (botI n g) _ ((hn.kept B1).kept BB) ((hg.kept B1).kept BB) TA;simp only[Ty.k,Ty.l,Ty.h,Ty.e,Ty.ao,Ty.len,Ty.cap] at NX hR;have E1:(w1.alloc (row2 f.p f.r)).heap.size=w1.heap.size+1:=alloc_size _ _;rw[E1] at NX;have L2:=L1.kept BB;have R2:=R1.kept BB;have G2:∀i,i<5→((w1.alloc (row2 f.p f.r)).alloc (.cells #[.int .i64 4,.int .i64 (botI n g),.slice (some ⟨w1.heap.size,0,none⟩) 2 2,.int .i64 f.h,.int .i64 f.e] 38)).frozen? ⟨w.heap.size+2,i,none⟩=false:=fun i hi=>(BB.frozen (p:=⟨w.heap.size+2,i,none⟩) (by show w.heap.size+2<_;omega)).trans (G1 i hi)
 have S2:=Nat.le_trans S1 BB.size;have B2:=Below.next B1 BB;have f0:=F1.c0;have f1:=F1.c1;have f2:=F1.c2;have f3:=F1.c3;have f4:=F1.c4;have f5:=F1.c5;have f6:=F1.c6;have f7:=F1.c7;have f8:=F1.c8;have f9:=F1.c9;have f10:=F1.c10;have f11:=F1.c11;have f12:=F1.c12;have f13:=F1.c13;have f14:=F1.c14;have f15:=F1.c15;have f16:=F1.c16;have f17:=F1.c17;have g11:=(F1.kept BA).c11;have g12:=(F1.kept BA).c12;have l0:=L2.c0;have l1:=L2.c1;have x0:=NX.c0;have x1:=NX.c1;have x2:=NX.c2;have x3:=NX.c3;have x4:=NX.c4;simp only[Ty.k,Ty.l,Ty.h,Ty.e,Ty.ao,Ty.len,Ty.cap] at x0 x1 x2 x3 x4;clear L1 F1 B1 S1 R1 G1 hf1 RW BA BC BB NX TA L2 E1;unfold row2 at *;go_wp2_with fail
 refine hR.mono ?_;intro e w3 hRP;obtain⟨u,rfl,uA,uB,uS,hb3⟩:=hRP;have HR:Hid (Bx w3 (w.heap.size+2) (zaa 0 0)∧∀i,i<5→w3.frozen? ⟨w.heap.size+2,i,none⟩=false):=⟨R2.kept hb3,fun i hi=>(hb3.frozen (p:=⟨w.heap.size+2,i,none⟩) (by show w.heap.size+2<_;omega)).trans (G2 i hi)⟩
 have HB:Hid (Below w.heap.size w (World.put5 w3 (w.heap.size+2) (.int .i64 u.k) (.int .i64 u.l) (.slice u.ao u.len u.cap) (.int .i64 u.h) (.int .i64 u.e))):=zd1 (by omega) (Below.next B2 hb3) _ _ _ _ _;have HU:Hid (u.At (World.put5 w3 (w.heap.size+2) (.int .i64 u.k) (.int .i64 u.l) (.slice u.ao u.len u.cap) (.int .i64 u.h) (.int .i64 u.e))∧u.same (zee n g f)=true∧u.Blk (fun b=>b<D∨w.heap.size≤b)):=⟨Ty.At.agree (Q:=fun b=>b≠w.heap.size+2) (fun b hq=>zho _ _ _ _ _ _ _ hq) uA (uB.mono (fun b hq=>by omega)),ztx _ _ _ _ uS,uB.mono (fun b hq=>by omega)⟩;clear R2 G2 S2 B2 hR uA uB uS hb3 l0 l1 g11 g12 x0 x1 x2 x3 x4 f0 f1 f2 f3 f4 f5 f6 f7 f8 f9 f10 f11 f12 f13 f14 f15 f16 f17;go_wp2_with (refine zcx rfl rfl _ _ rfl (w.heap.size+2) _ _ _ _ _ rfl rfl rfl rfl rfl rfl rfl HR.out.1 HR.out.2 ?_)
 obtain⟨e0,e1,e2,e3,e4⟩:=zd2 (.int .i64 u.k) (.int .i64 u.l) (.slice u.ao u.len u.cap) (.int .i64 u.h) (.int .i64 u.e) HR.out.1 HR.out.2;exact bodyPost_ret (v:=.agg #[.int .i64 u.k,.int .i64 u.l,.slice u.ao u.len u.cap,.int .i64 u.h,.int .i64 u.e]) (by simp[results,Tryz.results190,go_sem,e0,e1,e2,e3,e4]) rfl ⟨u,rfl,HU.out.1,HU.out.2.2,HU.out.2.1,HB.out⟩
theorem zky (D:Nat)(n:Strs)(g:Grid)(f:Cf)(w:World)(hn:n.At w)(hg:g.At w)(hf:f.At w):Calls Tryz.prog 190 #[.agg #[.slice n.ao n.len n.cap,.slice g.ao g.len g.cap],.agg f.vs.toArray] w (zei D (zee n g f.fn) w):=zqp D n g f.fn w hn hg ⟨hf.p,hf.r,hf.c⟩
theorem zsg (s:Ty):Instr.fill (fun i=>some (i*5,5)) (Array.map (fun x=>zT5[x % zT5.length]?.getD default) (Array.range 5)) [(0,Value.agg s.vs.toArray)]=some s.vs.toArray:=by kernel_rfl
theorem Tryz.infoTy5:(Tryz.prog.info? 38).map (fun i=>(i.zero,i.size,i.bytes))=some (some (.agg zT5.toArray),5,56):=by kernel_rfl
theorem run_slice1_ty5 (s:Ty)(w:World):(Instr.buildSlice 36 1 #[(0,.agg s.vs.toArray)]).run Tryz.prog w=.ok (.slice (some ⟨w.heap.size,0,none⟩) 1 1) (w.alloc (.cells s.vs.toArray 38)):=by
 obtain⟨i0,hi,hz0,hz1,hz2⟩:=info_parts Tryz.infoTy5;simp[Instr.buildSlice,run_underlying Tryz.underlying36,sizeOf,typeInfo,hi,hz0,hz1,zeroValue,newRow,Value.cells,zsg]
def mkB (k l:Int)(B:Nat)(p:Ty):Ty:=.mk k l 0 0 (some ⟨B,0,none⟩) B 0 1 1 (fun _=>p)
theorem zpm {w:World}{b o:Nat}{t:Ty}(h:w.rangeAt b o t.vs):C5 w b o t:=⟨h 0 _ rfl,h 1 _ rfl,h 2 _ rfl,h 3 _ rfl,h 4 _ rfl⟩
theorem mkB_at {w:World}{k l:Int}{B:Nat}{p:Ty}(hp:p.At w)(hb:Blk w B p.vs 38):(mkB k l B p).At w:=by
 refine⟨fun _=>rfl,by decide,fun i hi=>?_⟩
 match i,hi with
 | 0,_=>exact⟨zpm hb.range,hp⟩
theorem zux {k l:Int}{B:Nat}{p:Ty}:(mkB k l B p).same (mk1 k l p)=true:=by
 rw[za4];exact⟨⟨rfl,rfl,rfl,rfl,rfl⟩,fun i _=>zaj _⟩
theorem zxi {k l:Int}{B:Nat}{p:Ty}{Q:Nat→Prop}(hB:Q B)(hp:p.Blk Q):(mkB k l B p).Blk Q:=⟨fun _=>hB,fun _ _=>hp⟩
theorem zfb {o:Oper}{a:Act}{w:World}{K:Act→World→Prop}{Q:Exit→Act→World→Prop}(x:Operand)(ho:o.op=.buildSlice 36 1 #[(0,x)])(t:Ty)(hx:a.eval x=.agg t.vs.toArray)(h:∀u B,Below w.heap.size w u→Blk u B t.vs 38→w.heap.size≤B→K (a.put o.dst (.slice (some ⟨B,0,none⟩) 1 1)) u):o.wp Tryz.prog a w K Q:=by
 unfold Oper.wp execOp;simp only[ho,List.map_toArray,List.map_cons,List.map_nil,hx,Sem.run_bind,run_slice1_ty5,Result.andThen_ok,Sem.run_pure];exact h _ _ (zac w _) (Blk.new w t.vs _) (Nat.le_refl _)
theorem rng5 {w:World}{B k:Nat}{c:List Value}{ty:TypeId}{t:Ty}(h:Blk w B c ty)(h0:c[k]?=some (.int .i64 t.k))(h1:c[k+1]?=some (.int .i64 t.l))(h2:c[k+2]?=some (.slice t.ao t.len t.cap))(h3:c[k+3]?=some (.int .i64 t.h))(h4:c[k+4]?=some (.int .i64 t.e)):w.rangeAt B k t.vs:=zl7 ⟨h.cell _ h0,h.cell _ h1,h.cell _ h2,h.cell _ h3,h.cell _ h4⟩
theorem zq8 {u r t:Ty}(h:u.same r=true):u.same t=r.same t:=by
 rw[Bool.eq_iff_iff];exact⟨fun k=>zar _ _ _ (zby _ _ h) k,fun k=>zar _ _ _ h k⟩
theorem zqm {u r t:Ty}(h:u.same r=true):t.same u=t.same r:=by
 rw[Bool.eq_iff_iff];exact⟨fun k=>zar _ _ _ k h,fun k=>zar _ _ _ k (zby _ _ h)⟩
theorem ze3 {n:Strs}{g:Grid}{u r t:Ty}(hu:u.Nd)(hr:r.Nd)(h:u.same r=true):blw n g u t=blw n g r t:=by unfold blw;rw[zq8 h,zqt hu hr h]
theorem zsl {n:Strs}{g:Grid}{u r t:Ty}(hu:u.Nd)(hr:r.Nd)(h:u.same r=true):blw n g t u=blw n g t r:=by unfold blw;rw[zqm h,zq7 hu hr h]
theorem zea:∀{t:Ty},t.pn≤t.nodes
 | .dm=>Nat.zero_le _
 | .mk _ _ _ _ _ _ _ _ _ _=>Nat.le_add_left _ _
theorem zfv {n:Strs}{g:Grid}{t:Ty}{a:Int}{m:Nat}(hm:1≤m)(h:t.nodes≤m):(zak n g t a).nodes≤m:=by
 unfold zak;split
 ·cases t with
  | dm=>exact h
  | mk _ _ _ _ _ _ _ _ _ _=>exact h
 ·exact hm
theorem zh8 {u r:Ty}(hu:u.Nd)(hr:r.Nd)(h:u.same r=true){m:Nat}(hm:r.nodes≤m):u.pn≤m:=by
 have:=(zdz (N:=0) u r hu hr h).2;exact Nat.le_trans zea (by omega)
theorem zu8 (st:Ty)(w:World)(h:st.At w):Calls Tryz.prog 34 #[.slice st.ao st.len st.cap] w fun e w'=>e=.returned (.bool (mayB st))∧Below w.heap.size w w':=by
 have HS:=hyd h;have HM:Hid (mayB st=(decide (2≤st.len)&&(decide ((st.ps (st.len - 2)).k=4)&&decide ((st.ps (st.len - 2)).e≠-1)))):=rfl;have hbd:=h.bound;generalize mayB st=R at *;clear h;go_enter Tryz.func34,Tryz.ntmps34
 by_cases hl:st.len<2
 ·have e0:(st.len:Int)<2:=by omega
  have HE:Hid (R=false):=by rw[HM.out,decide_eq_false (by omega)];rfl
  clear HM hl;go_wp2;go_ret;exact⟨zab HE.out.symm,Below.refl _ _⟩
 have e0:¬(st.len:Int)<2:=by omega
 have r0:=zbm HS.out (i:=st.len - 2) (by omega);have HE:Hid (R=(decide ((st.ps (st.len - 2)).k=4)&&decide ((st.ps (st.len - 2)).e≠-1))):=by rw[HM.out,decide_eq_true (by omega)];rfl
 have i0:(0:Int)≤(st.len:Int) - 2:=by omega
 have i1:(st.len:Int) - 2<st.len:=by omega
 have i2:((st.len:Int) - 2).toNat=st.len - 2:=by omega
 clear HM hl;rw[HS.out.nil (by omega)];generalize st.ps (st.len - 2)=t at *;go_upto_region 4 with (first | (refine wpList_load_mid rfl 38 (.tmp 11) rfl st.b (st.o+(st.len - 2)*5) (by kernel_rfl) t.vs _ r0 Tryz.underlying38 rfl (by kernel_rfl) ?_) | (refine zao rfl rfl 38 rfl (.tmp 3) (.tmp 12) rfl zT5 (alloc_ty5 _) rfl t.vs.toArray (by kernel_rfl) (by kernel_rfl) rfl (by kernel_rfl) (by simpa using t.vs_one) ?_))
 simp only[Act.put,zA,zB,zC];have BA:=zac w (.cells t.vs.toArray 38);have H3:=hyd (show Below w.heap.size w (w.alloc (.cells t.vs.toArray 38))∧Blk (w.alloc (.cells t.vs.toArray 38)) w.heap.size t.vs 38 from ⟨BA,Blk.new w _ _⟩);clear BA r0 i0 i1 i2 e0;generalize w.alloc (.cells t.vs.toArray 38)=u1 at *;have d0:u1.cell? ⟨w.heap.size,0,none⟩=some (.int .i64 t.k):=H3.out.2.cell 0 rfl;have d4:u1.cell? ⟨w.heap.size,4,none⟩=some (.int .i64 t.e):=H3.out.2.cell 4 rfl;by_cases hk:t.k=4
 ·have e1:(t.k==4)=true:=by simpa using hk
  by_cases he:t.e=-1
  ·have e2:(t.e != -1)=false:=by simpa using he
   have HF:Hid (R=false):=hyd (HE.out.trans (by rw[decide_eq_false (p:=t.e≠-1) (by simpa using he)];exact Bool.and_false _))
   clear HE hk he;go_wp2;go_ret;exact⟨zab HF.out.symm,H3.out.1⟩
  ·have e2:(t.e != -1)=true:=by simpa using he
   have HF:Hid (R=true):=by rw[HE.out,decide_eq_true hk,decide_eq_true he];rfl
   clear HE hk he;go_wp2;go_ret;exact⟨zab HF.out.symm,H3.out.1⟩
 ·have e1:(t.k==4)=false:=by simpa using hk
  have HF:Hid (R=false):=by rw[HE.out,decide_eq_false hk];rfl
  clear HE hk d4;go_wp2;go_ret;exact⟨zab HF.out.symm,H3.out.1⟩
end
end Go.Proofs.YtfobijdkoeifjaaGreatDoor
