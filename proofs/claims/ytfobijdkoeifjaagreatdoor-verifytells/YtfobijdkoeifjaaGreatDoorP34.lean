import Derived.Test.YtfobijdkoeifjaaGreatDoorP30
import Derived.Test.YtfobijdkoeifjaaGreatDoorP32
import Derived.Test.YtfobijdkoeifjaaGreatDoorP27
import Derived.Test.YtfobijdkoeifjaaGreatDoorP23
import Derived.Test.YtfobijdkoeifjaaGreatDoorP31
import Derived.Test.YtfobijdkoeifjaaGreatDoorP33
import Derived.Test.YtfobijdkoeifjaaGreatDoorP18
import Derived.Test.YtfobijdkoeifjaaGreatDoorP14
set_option maxRecDepth 100000
set_option maxHeartbeats 32000000
namespace Go.Proofs.YtfobijdkoeifjaaGreatDoor
section
open Go Go.RowKit
def Qw (w0:World)(M:Nat):Nat→Prop:=fun b=>b<w0.heap.size∨M≤b
structure Sw (w0:World)(M:Nat)(v:Vp)(g:Rw Bool)(BJ BS:Nat)(tT:Ty)(B1 B2 n m:Nat)(d1 d2:Nat→Ty)(k p:Int)(u:World):Prop where
 r:Sr w0 v g BJ BS tT (rowT B1 n n d1) (rowT B2 m m d2) k p u
 b1:Blk u B1 (zai d1 n) 38
 b2:Blk u B2 (zai d2 m) 38
 a1:∀i,i<n→(d1 i).At u∧(d1 i).Blk (Qw w0 M)
 a2:∀i,i<m→(d2 i).At u∧(d2 i).Blk (Qw w0 M)
 ne:B1≠B2∧B1≠BS∧B2≠BS
 lo:(w0.heap.size≤B1∧w0.heap.size≤B2∧w0.heap.size≤BS)∧(B1<M∧B2<M∧BS<M)∧M≤u.heap.size
 sz:n≤1000∧m≤1000
variable {w0:World} {M:Nat} {v:Vp} {g:Rw Bool} {BJ BS:Nat} {tT:Ty} {B1 B2 n m:Nat} {d1 d2:Nat→Ty} {k p:Int} {u u':World}
theorem Sw.kept (h:Sw w0 M v g BJ BS tT B1 B2 n m d1 d2 k p u)(hb:Below u.heap.size u u'):Sw w0 M v g BJ BS tT B1 B2 n m d1 d2 k p u' :=
 ⟨h.r.kept hb,h.b1.kept hb,h.b2.kept hb,fun i hi=>⟨(h.a1 i hi).1.kept hb,(h.a1 i hi).2⟩,fun i hi=>⟨(h.a2 i hi).1.kept hb,(h.a2 i hi).2⟩,h.ne,⟨h.lo.1,h.lo.2.1,by have:=h.lo.2.2;have:=hb.size;omega⟩,h.sz⟩
theorem Qw.agree {B:Nat}{c:List Value}{t:TypeId}{s:Ty}(hs:s.At u)(hk:s.Blk (Qw w0 M))(W:WroteB u u' B c t)(h1:w0.heap.size≤B)(h2:B<M):s.At u':=Ty.At.agree (Q:=Qw w0 M) (fun b hb=>W.other b (by unfold Qw at hb;omega)) hs hk
theorem Sw.turn (h:Sw w0 M v g BJ BS tT B1 B2 n m d1 d2 k p u){k' p':Int}(W:WroteB u u' BS (svs v BJ tT (rowT B1 n n d1) (rowT B2 m m d2) k' p') 170):Sw w0 M v g BJ BS tT B1 B2 n m d1 d2 k' p' u' :=
 ⟨h.r.put (W.below h.lo.1.2.2 h.r.bl) W.blk,W.keep h.b1 h.ne.2.1,W.keep h.b2 h.ne.2.2,fun i hi=>⟨Qw.agree (h.a1 i hi).1 (h.a1 i hi).2 W h.lo.1.2.2 h.lo.2.1.2.2,(h.a1 i hi).2⟩,fun i hi=>⟨Qw.agree (h.a2 i hi).1 (h.a2 i hi).2 W h.lo.1.2.2 h.lo.2.1.2.2,(h.a2 i hi).2⟩,h.ne,⟨h.lo.1,h.lo.2.1,by rw[W.size];exact h.lo.2.2⟩,h.sz⟩
theorem Sw.put1 (h:Sw w0 M v g BJ BS tT B1 B2 n m d1 d2 k p u){i:Nat}{t:Ty}(W:WroteB u u' B1 (zai (upT d1 i t) n) 38)(ht:t.At u)(hk:t.Blk (Qw w0 M)):Sw w0 M v g BJ BS tT B1 B2 n m (upT d1 i t) d2 k p u' :=
 ⟨h.r.put (W.below h.lo.1.1 h.r.bl) (W.keep h.r.b h.ne.2.1.symm),W.blk,W.keep h.b2 h.ne.1.symm,fun j hj=>by
  unfold upT;split
  ·exact⟨Qw.agree ht hk W h.lo.1.1 h.lo.2.1.1,hk⟩
  ·exact⟨Qw.agree (h.a1 j hj).1 (h.a1 j hj).2 W h.lo.1.1 h.lo.2.1.1,(h.a1 j hj).2⟩,fun j hj=>⟨Qw.agree (h.a2 j hj).1 (h.a2 j hj).2 W h.lo.1.1 h.lo.2.1.1,(h.a2 j hj).2⟩,h.ne,⟨h.lo.1,h.lo.2.1,by rw[W.size];exact h.lo.2.2⟩,h.sz⟩
theorem Sw.put2 (h:Sw w0 M v g BJ BS tT B1 B2 n m d1 d2 k p u){i:Nat}{t:Ty}(W:WroteB u u' B2 (zai (upT d2 i t) m) 38)(ht:t.At u)(hk:t.Blk (Qw w0 M)):Sw w0 M v g BJ BS tT B1 B2 n m d1 (upT d2 i t) k p u' :=
 ⟨h.r.put (W.below h.lo.1.2.1 h.r.bl) (W.keep h.r.b h.ne.2.2.symm),W.keep h.b1 h.ne.1,W.blk,fun j hj=>⟨Qw.agree (h.a1 j hj).1 (h.a1 j hj).2 W h.lo.1.2.1 h.lo.2.1.2.1,(h.a1 j hj).2⟩,fun j hj=>by
  unfold upT;split
  ·exact⟨Qw.agree ht hk W h.lo.1.2.1 h.lo.2.1.2.1,hk⟩
  ·exact⟨Qw.agree (h.a2 j hj).1 (h.a2 j hj).2 W h.lo.1.2.1 h.lo.2.1.2.1,(h.a2 j hj).2⟩,h.ne,⟨h.lo.1,h.lo.2.1,by rw[W.size];exact h.lo.2.2⟩,h.sz⟩
theorem Sw.row1 (h:Sw w0 M v g BJ BS tT B1 B2 n m d1 d2 k p u):(rowT B1 n n d1).At u:=zf7 h.b1 (fun i hi=>(h.a1 i hi).1) (by have:=h.sz;omega)
theorem Sw.row2 (h:Sw w0 M v g BJ BS tT B1 B2 n m d1 d2 k p u):(rowT B2 m m d2).At u:=zf7 h.b2 (fun i hi=>(h.a2 i hi).1) (by have:=h.sz;omega)
def Kp (B1 BS:Nat)(w u:World):Prop:=w.heap.size≤u.heap.size∧∀b,b<w.heap.size→b≠B1→b≠BS→u.heap[b]?=w.heap[b]?
theorem Kp.grow {B1 BS:Nat}{w u u':World}(h:Kp B1 BS w u)(hb:Below u.heap.size u u'):Kp B1 BS w u':=⟨by have:=h.1;have:=hb.size;omega,fun b k1 k2 k3=>(hb.block b (by have:=h.1;omega)).trans (h.2 b k1 k2 k3)⟩
theorem Kp.wrote {B1 BS B:Nat}{w u u':World}{c:List Value}{t:TypeId}(h:Kp B1 BS w u)(W:WroteB u u' B c t)(hB:B=B1∨B=BS):Kp B1 BS w u':=⟨by rw[W.size];exact h.1,fun b k1 k2 k3=>(W.other b (by rcases hB with e | e <;> rw[e] <;> assumption)).trans (h.2 b k1 k2 k3)⟩
def BrP (w0:World)(M:Nat)(v:Vp)(g:Rw Bool)(BJ BS:Nat)(tT:Ty)(B1 B2 n m:Nat)(d1 d2:Nat→Ty)(kk p:Int)(w:World)(e:Ending)(w':World):Prop:=∃d1',e=.returned (.tuple #[])∧(Sw w0 M v g BJ BS tT B1 B2 n m d1' d2 kk p w'∧∀i,i<n→(d1' i).same (zak v.c.n v.c.g (d1 i) kk)=true)∧Kp B1 BS w w'
theorem zld (w0:World)(M:Nat)(v:Vp)(g:Rw Bool)(BJ BS:Nat)(tT:Ty)(B1 B2 n m:Nat)(d1 d2:Nat→Ty)(k p kk:Int)(w:World)(h:Sw w0 M v g BJ BS tT B1 B2 n m d1 d2 k p w):Calls Tryz.prog 143 #[.pointer (some ⟨BS,0,none⟩),.int .i64 kk] w (BrP w0 M v g BJ BS tT B1 B2 n m d1 d2 kk p w):=by
 have H1:=hyd h;have bS:=h.r.b;clear h;go_enter Tryz.func143,Tryz.ntmps143
 go_upto_region 1 with (refine zbf rfl 3 (.tmp 9) (.tmp 7) rfl rfl BS 13 (.int .i64 kk) _ _ (by kernel_rfl) (by kernel_rfl) (zaw _ _ (by kernel_rfl) rfl rfl _ _) bS (by simp[svs]) ?_;intro w2 W2)
 have H2:=hyd (H1.out.turn (k':=kk) (p':=p) W2);have HKP:=hyd (show Kp B1 BS w w2 from Kp.wrote (u:=w) ⟨Nat.le_refl _,fun _ _ _ _=>rfl⟩ W2 (Or.inr rfl));clear W2 bS H1;have c11:=H2.out.r.b.cell 11 (v:=.slice (some ⟨B1,0,none⟩) n n) rfl;have hbd:n≤1000:=H2.out.sz.1;go_wp2;go_loopw [16] (fun i wr=>∃(j:Nat) (e1:Nat→Ty),j≤n∧i=.int .i64 j∧(Sw w0 M v g BJ BS tT B1 B2 n m e1 d2 kk p wr∧Kp B1 BS w wr)∧(∀i,i<j→(e1 i).same (zak v.c.n v.c.g (d1 i) kk)=true)∧∀i,j≤i→e1 i=d1 i) (fun i _=>n - (intOf i).toNat)
 case atStart=>exact⟨0,d1,Nat.zero_le _,rfl,⟨H2.out,HKP.out⟩,fun i hi=>absurd hi (Nat.not_lt_zero _),fun _ _=>rfl⟩
 case round =>
  clear H2 c11 HKP;obtain⟨j,e1,hj,rfl,hB,hall,hrest⟩:=hrel;have HB:=hyd hB.1;have HKP:=hyd hB.2;have HL:=hyd (show (∀i,i<j→(e1 i).same (zak v.c.n v.c.g (d1 i) kk)=true)∧∀i,j≤i→e1 i=d1 i from ⟨hall,hrest⟩);clear hB hall hrest;by_cases hlt:j<n
  ·have ij:(j:Int)<n:=by omega
   have r0:=zbm HB.out.row1 (i:=j) hlt;have HT:=hyd (show (e1 j).At wr∧e1 j=d1 j from ⟨(HB.out.a1 j hlt).1,HL.out.2 j (Nat.le_refl _)⟩);have HL2:Hid (∀u:Ty,u.same (zak v.c.n v.c.g (e1 j) kk)=true→(∀i,i<j+1→((upT e1 j u) i).same (zak v.c.n v.c.g (d1 i) kk)=true)∧∀i,j+1≤i→(upT e1 j u) i=d1 i):=fun u hu=>⟨fun i hi=>by
    unfold upT;by_cases e:i=j
    ·rw[if_pos e,e,←HT.out.2];exact hu
    ·rw[if_neg e];exact HL.out.1 i (by omega),fun i hi=>by
    unfold upT;rw[if_neg (by omega)];exact HL.out.2 i (by omega)⟩
   have r0':wr.rangeAt B1 (j*5) (e1 j).vs:=by
    have r1:wr.rangeAt B1 (0+j*5) (e1 j).vs:=r0
    rwa [Nat.zero_add] at r1
   clear r0 HL;have HTA:=hyd HT.out.1;clear HT;generalize e1 j=t at *;go_upto_region 4 with (first | (refine wpList_load_mid rfl 38 (.tmp 19) rfl B1 (j*5) (by kernel_rfl) t.vs _ r0' Tryz.underlying38 rfl (by kernel_rfl) ?_) | (refine zdf rfl rfl rfl 38 rfl (.tmp 18) rfl (.tmp 5) (.tmp 20) rfl zT5 (alloc_ty5 _) rfl (.int .i64 j) (by kernel_rfl) t.vs.toArray (by kernel_rfl) (by kernel_rfl) rfl (by kernel_rfl) (by simpa using t.vs_one) ?_))
   simp only[Act.put,zA,zB,zC];have B5:=zac wr (.cells t.vs.toArray 38);replace HKP:=hyd (HKP.out.grow B5);have HU:=hyd (show Sw w0 M v g BJ BS tT B1 B2 n m e1 d2 kk p (wr.alloc (.cells t.vs.toArray 38))∧(Blk (wr.alloc (.cells t.vs.toArray 38)) wr.heap.size t.vs 38∧t.At (wr.alloc (.cells t.vs.toArray 38)))∧B1<wr.heap.size from ⟨HB.out.kept B5,⟨Blk.new wr _ _,HTA.out.kept B5⟩,HB.out.b1.lt⟩);clear r0' B5 HB HTA;generalize wr.alloc (.cells t.vs.toArray 38)=U at *;generalize wr.heap.size=BV at *;have s0:∀x:Wd (fun q=>Sr w0 v g BJ BS tT (rowT B1 n n e1) (rowT B2 m m d2) kk p q∧Blk q BV t.vs 38),x.w.cell? ⟨BS,0,none⟩=_:=fun x=>x.2.1.b.cell 0 rfl;have s11:∀x:Wd (fun q=>Sr w0 v g BJ BS tT (rowT B1 n n e1) (rowT B2 m m d2) kk p q∧Blk q BV t.vs 38),x.w.cell? ⟨BS,11,none⟩=some (.slice (some ⟨B1,0,none⟩) n n):=fun x=>x.2.1.b.cell 11 rfl;have rV:∀u,(∃x:Wd (fun q=>Sr w0 v g BJ BS tT (rowT B1 n n e1) (rowT B2 m m d2) kk p q∧Blk q BV t.vs 38),u=x.w)→u.rangeAt BV 0 t.vs:=fun _ hC=>by obtain⟨x,rfl⟩:=hC;exact x.2.2.range
   have hNE:Nonempty (Wd (fun q=>Sr w0 v g BJ BS tT (rowT B1 n n e1) (rowT B2 m m d2) kk p q∧Blk q BV t.vs 38)):=⟨⟨_,HU.out.1.r,HU.out.2.1.1⟩⟩;have HV0:=hyd (Below.refl U.heap.size U).drew;refine zal (fun q=>Sr w0 v g BJ BS tT (rowT B1 n n e1) (rowT B2 m m d2) kk p q∧Blk q BV t.vs 38) [0,1,2,3,4,5,6,7,8,9,10,11] 3 (by kernel_rfl) rfl (by kernel_rfl) (za7 (by kernel_rfl)) ⟨HU.out.1.r.kept HV0.out,HU.out.2.1.1.kept HV0.out⟩ ?_;simp only[List.filterMap,zD,zE];iterate 10 go_big_quiet_step (fail)
   go_big_quiet_want;refine zad 38 (.tmp 5) rfl BV 0 (by kernel_rfl) t.vs _ rV Tryz.underlying38 rfl (by kernel_rfl) ?_;simp only[Act.put,zA,zB,zC];go_big_quiet_on;go_big_quiet_step (fail)
   refine wpQuiet_nil ?_;clear s0 s11 rV hNE;have HX:=hyd (show Sw w0 M v g BJ BS tT B1 B2 n m e1 d2 kk p U.drew∧(Blk U.drew BV t.vs 38∧t.At U.drew)∧B1<BV from ⟨HU.out.1.kept HV0.out,⟨HU.out.2.1.1.kept HV0.out,HU.out.2.1.2.kept HV0.out⟩,HU.out.2.2⟩);replace HKP:=hyd (HKP.out.grow HV0.out);clear HV0 HU;generalize U.drew=v0 at *;refine wpAnyH_ready (rs:=[12]) (by kernel_rfl) (by simp) ?_;refine AllReadyH.cons rfl (fun K hK=>?_) AllReadyH.nil;rw[if_pos (by rfl)];go_simp;refine (zbc w0.heap.size v.c v.f g BJ t kk v0 HX.out.1.r.j HX.out.2.1.2 HX.out.1.r.bl.size).mono ?_;rintro _ v1 ⟨u,rfl,uA,uB,uS,hb⟩;have HY:=hyd (show Sw w0 M v g BJ BS tT B1 B2 n m e1 d2 kk p v1∧Blk v1 BV t.vs 38∧B1<BV from ⟨HX.out.1.kept hb,HX.out.2.1.1.kept hb,HX.out.2.2⟩);replace HKP:=hyd (HKP.out.grow hb);have HUU:=hyd (show (u.At v1∧u.Blk (Qw w0 M))∧u.same (zak v.c.n v.c.g t kk)=true from ⟨⟨uA,uB.mono (fun b hb2=>by have:=HX.out.1.lo.2.2;unfold Qw;omega)⟩,uS⟩)
   refine hK.out _ _ ⟨HY.out.1.r,HY.out.2.1⟩ (fun _=>?_);clear hK K hb uA uB uS HX;refine wpAnyH_ready (rs:=[13]) (by kernel_rfl) (by simp) ?_;refine AllReadyH.cons rfl (fun K hK=>?_) AllReadyH.nil;rw[if_pos (by rfl)];go_simp;refine hK.out _ _ ⟨HY.out.1.r,HY.out.2.1⟩ (fun _=>?_);clear hK K;refine wpAnyH_ready (rs:=[14]) (by kernel_rfl) (by simp) ?_;refine AllReadyH.cons rfl (fun K hK=>?_) AllReadyH.nil;rw[if_pos (by rfl)];refine za6 (.tmp 34) (.tmp 33) rfl rfl B1 j n e1 u (by kernel_rfl) (by kernel_rfl) HY.out.1.b1 hlt ?_;intro v2 W2;replace HKP:=hyd (HKP.out.wrote W2 (Or.inl rfl));have HZ:=hyd (HY.out.1.put1 W2 HUU.out.1.1 HUU.out.1.2);have HV:=hyd (W2.keep HY.out.2.1 (by have:=HY.out.2.2;omega))
   refine hK.out _ _ ⟨HZ.out.r.put HZ.out.r.bl HZ.out.r.b,HV.out⟩ (fun _=>?_);clear hK K W2;refine wpAnyH_done (by kernel_rfl) ?_ _;refine⟨(fun c hc=>by cases hc),?_⟩;have HE:=hyd (HL2.out u HUU.out.2);clear HL2 HY HUU HV;go_wp2;go_roundw
   case rel=>exact⟨j+1,_,by omega,by go_num,⟨HZ.out,HKP.out⟩,HE.out⟩
   case measure=>simp[intOf];omega
  ·have ij:¬(j:Int)<n:=by omega
   have HE:=hyd (show BrP w0 M v g BJ BS tT B1 B2 n m d1 d2 kk p w (.returned (.tuple #[])) wr from ⟨e1,rfl,⟨HB.out,fun i hi=>HL.out.1 i (by omega)⟩,HKP.out⟩);go_wp2;refine bodyPost_ret (v:=.tuple #[]) (by kernel_rfl) rfl ?_;exact HE.out
theorem emp_at {α:Type}{z:Nat}{vs:α→List Value}{A:World→α→Prop}{w:World}{x:Nat→α}:Rw.At z vs A w ⟨none,0,0,0,0,x⟩ :=
 ⟨fun h=>absurd h (Nat.lt_irrefl 0),Nat.zero_le _,fun _ h=>absurd h (Nat.not_lt_zero _),fun _ h=>absurd h (Nat.not_lt_zero _)⟩
theorem i64_0:I64 0:=⟨by decide,by decide⟩
theorem Cf.bare_at {f:Cf}{w:World}(h:f.At w):f.bare.At w:=⟨zav 0 0 w,zav 0 0 w,zav 0 0 w,i64_0,i64_0,i64_0,h.cd,emp_at,emp_at,emp_at⟩
theorem zwt {w:World}:BlAt w noBl:=emp_at
noncomputable def goesV (v:Vp) (st sl:Tq):Bool:=open Classical in decide (∀a ∈ v.f.bare.ws noBl v.p,v.fit st sl a.toNat=true)
theorem zrd (w0:World)(v:Vp)(g:Rw Bool)(BJ BS:Nat)(tT st sl:Ty)(k p:Int)(w:World)(h:Sr w0 v g BJ BS tT st sl k p w)(hst:st.At w)(hsl:sl.At w)(hn:v.f.cd.len≤100000)(hl:∀q,q<v.f.pt.len→sl.len=(v.f.pt.x q).sl.len)(hp:∀i,i<st.len→(st.ps i).pn≤1000)(hp2:∀i,i<sl.len→(sl.ps i).pn≤1000):Calls Tryz.prog 100 #[.pointer (some ⟨BS,0,none⟩)] w fun e w'=>e=.returned (.bool (goesV v st.sq sl.sq))∧Below w.heap.size w w':=by
 have H1:=hyd (show Sr w0 v g BJ BS tT st sl k p w∧st.At w∧sl.At w from ⟨h,hst,hsl⟩);have HD:=hyd (show v.f.cd.len≤100000∧(∀q,q<v.f.pt.len→sl.len=(v.f.pt.x q).sl.len)∧(∀i,i<st.len→(st.ps i).pn≤1000)∧(∀i,i<sl.len→(sl.ps i).pn≤1000) from ⟨hn,hl,hp,hp2⟩);have HT:Hid (∀s:Rw Int,s.ls=v.f.bare.ws noBl v.p→(∀i,i<s.len→fitP v.c.n v.c.g (v.f.pt.x (s.x i).toNat) st.sq sl.sq=true)→goesV v st.sq sl.sq=true):=fun s hs h=>decide_eq_true (fun a ha=>by
  rw[←hs] at ha;obtain⟨i,hi,rfl⟩:=Rw.mem_ls.1 ha;exact h i hi)
 have HF:Hid (∀s:Rw Int,s.ls=v.f.bare.ws noBl v.p→∀i,i<s.len→fitP v.c.n v.c.g (v.f.pt.x (s.x i).toNat) st.sq sl.sq=false→goesV v st.sq sl.sq=false):=fun s hs i hi h=>decide_eq_false (fun hh=>by
  have:=hh (s.x i) (by rw[←hs];exact Rw.mem_ls.2 ⟨i,hi,rfl⟩)
  unfold Vp.fit at this;rw[h] at this;cases this)
 have HPL:Hid (∀s:Rw Int,s.ls=v.f.bare.ws noBl v.p→∀i,i<s.len→∃q:Nat,s.x i=q∧q<v.f.pt.len):=fun s hs i hi=>by
  have ha:s.x i ∈ v.f.bare.ws noBl v.p:=by rw[←hs];exact Rw.mem_ls.2 ⟨i,hi,rfl⟩
  obtain⟨q,e,hq,_⟩:=ziz.1 ha;exact⟨q,e,by rw[h.pp];exact hq⟩
 generalize goesV v st.sq sl.sq=R at *;clear h hst hsl hn hl hp hp2;go_enter Tryz.func100,Tryz.ntmps100
 go_upto_region 1 with fail
 have s0:∀x:Wd (fun q=>Below w.heap.size w q),x.w.cell? ⟨BS,0,none⟩=_:=fun x=>(H1.out.1.b.kept x.2).cell 0 rfl;have s1:∀x:Wd (fun q=>Below w.heap.size w q),x.w.cell? ⟨BS,1,none⟩=_:=fun x=>(H1.out.1.b.kept x.2).cell 1 rfl;have j17:∀x:Wd (fun q=>Below w.heap.size w q),x.w.cell? ⟨BJ,17,none⟩=_:=fun x=>(H1.out.1.j.b.kept x.2).cell 17 rfl;have hNE:Nonempty (Wd (fun q=>Below w.heap.size w q)):=⟨⟨_,Below.refl _ _⟩⟩;have HV0:=hyd (Below.refl w.heap.size w).drew;refine zal (fun q=>Below w.heap.size w q) [0,1,2,3,4,5,6,7,8,9,10,11,12,15] 2 (by kernel_rfl) rfl (by kernel_rfl) (za7 (by kernel_rfl)) HV0.out ?_;simp only[List.filterMap,zD,zE];iterate 14 go_big_quiet_step (fail)
 refine wpQuiet_nil ?_;clear s0 s1 j17 hNE;generalize w.drew=v0 at *;have H2:=hyd (show Sr w0 v g BJ BS tT st sl k p v0∧Below w.heap.size w v0 from ⟨H1.out.1.kept HV0.out,HV0.out⟩);refine wpAnyH_ready (rs:=[13]) (by kernel_rfl) (by simp) ?_;refine AllReadyH.cons rfl (fun K hK=>?_) AllReadyH.nil;rw[if_pos (by rfl)];have h0:=zm5 v.f.bare noBl v.p v0 (Cf.bare_at H2.out.1.j.f) zwt H2.out.1.pl;go_simp;refine h0.mono ?_;rintro _ y2 ⟨vv,rfl,hO,hb⟩;obtain⟨s,rfl,hs,hls⟩:=hO.readW HD.out.1;have H3:=hyd (show (Sr w0 v g BJ BS tT st sl k p y2∧st.At y2∧sl.At y2)∧NmAt y2 s∧Below w.heap.size w y2 from ⟨⟨H2.out.1.kept hb,H1.out.2.1.kept (Below.next H2.out.2 hb),H1.out.2.2.kept (Below.next H2.out.2 hb)⟩,hs,Below.next H2.out.2 hb⟩);have HS:=hyd (show ((∀i,i<s.len→fitP v.c.n v.c.g (v.f.pt.x (s.x i).toNat) st.sq sl.sq=true)→R=true)∧(∀i,i<s.len→fitP v.c.n v.c.g (v.f.pt.x (s.x i).toNat) st.sq sl.sq=false→R=false)∧(∀i,i<s.len→∃q:Nat,s.x i=q∧q<v.f.pt.len) from ⟨HT.out s hls,HF.out s hls,HPL.out s hls⟩);have hbd:=hs.bound;have HNI:=hyd hs.nil;clear HT HF HPL h0 hO hb hs hls H1 H2 HV0;refine hK.out _ _ H3.out.2.2 (fun _=>?_);clear hK K;refine wpAnyH_ready (rs:=[14]) (by kernel_rfl) (by simp) ?_;refine AllReadyH.cons rfl (fun K hK=>?_) AllReadyH.nil;rw[if_pos (by rfl)];go_simp;refine hK.out _ _ H3.out.2.2 (fun _=>?_);clear hK K;refine wpAnyH_done (by kernel_rfl) ?_ _;refine⟨(fun c hc=>by cases hc),?_⟩;go_wp2_with fail
 go_loopw [20] (fun i wr=>∃(j:Nat),j≤s.len∧i=.int .i64 j∧Below y2.heap.size y2 wr∧∀i,i<j→fitP v.c.n v.c.g (v.f.pt.x (s.x i).toNat) st.sq sl.sq=true) (fun i _=>s.len - (intOf i).toNat)
 case atStart=>exact⟨0,Nat.zero_le _,rfl,Below.refl _ _,fun i hi=>absurd hi (Nat.not_lt_zero _)⟩
 case round =>
  obtain⟨j,hj,rfl,hB,hall⟩:=hrel;have HB:=hyd (show Below y2.heap.size y2 wr∧Sr w0 v g BJ BS tT st sl k p wr∧st.At wr∧sl.At wr from ⟨hB,H3.out.1.1.kept hB,H3.out.1.2.1.kept hB,H3.out.1.2.2.kept hB⟩);have HL:=hyd hall;clear hB hall;by_cases hlt:j<s.len
  ·have ij:(j:Int)<s.len:=by omega
   obtain⟨q,hq,hql⟩:=HS.out.2.2 j hlt;have r0:=zaf (H3.out.2.1.row j hlt) HB.out.1 0 _ rfl;rw[hq] at r0;simp only[Nat.add_zero,Nat.mul_one] at r0;rw[HNI.out (by omega)];have HY:=hyd (zbx (P:=fun i=>fitP v.c.n v.c.g (v.f.pt.x (s.x i).toNat) st.sq sl.sq=true) HL.out);have HF2:=hyd (HS.out.2.1 j hlt);rw[hq,Int.toNat_natCast] at HY HF2;have HFI:Hid (∀x:Gr wr,Calls Tryz.prog 59 #[.pointer (some ⟨BJ,0,none⟩),.agg (stV st sl).toArray,.int .i64 q] x.w fun e w'=>e=.returned (.bool (fitP v.c.n v.c.g (v.f.pt.x q) st.sq sl.sq))∧Below x.w.heap.size x.w w'):=fun x=>zhp v.c v.f g BJ st sl q x.w (HB.out.2.1.kept x.bl).j (HB.out.2.2.1.kept x.bl) (HB.out.2.2.2.kept x.bl) hql (HD.out.2.1 q hql) HD.out.2.2.1 HD.out.2.2.2;clear HL hq hql;generalize fitP v.c.n v.c.g (v.f.pt.x q) st.sq sl.sq=bb at *;go_upto_region 4 with fail
   have s0:=fun x:Gr wr=>x.cell (HB.out.2.1.b.cell 0 rfl);have rS:∀u,(∃x:Gr wr,u=x.w)→u.rangeAt BS 11 (stV st sl):=fun _ hC=>by
    obtain⟨x,rfl⟩:=hC;intro j y hj;have hb:=(HB.out.2.1.kept x.bl).b
    match j,hj with
    | 0,hj=>exact hb.cell 11 hj
    | 1,hj=>exact hb.cell 12 hj
    | j+2,hj=>simp[stV] at hj
   have hNE:Nonempty (Gr wr):=⟨⟨_,Below.refl _ _⟩⟩;refine zah (by kernel_rfl) (by kernel_rfl) ?_;iterate 7 go_big_quiet_step (fail)
   go_big_quiet_want;refine zad 105 (.tmp 30) rfl BS 11 (by kernel_rfl) (stV st sl) _ rS Tryz.underlying105 rfl (by kernel_rfl) ?_;simp only[Act.put,zA,zB,zC];go_big_quiet_on;go_big_quiet_step (fail)
   go_big_quiet_step ((go_at_call 59;exact Calls.gr _ (HFI.out _)))
   go_big_quiet_step (fail)
   refine wpQuiet_nil ?_;rintro v1 ⟨xg,rfl⟩;have Bg:=xg.bl;generalize xg.w=v1 at Bg ⊢;have HX:=hyd (Below.next HB.out.1 Bg);clear xg Bg s0 rS hNE HFI HB r0;cases bb
   ·have HE:=hyd (HF2.out rfl);go_wp2;go_ret;exact⟨zab HE.out.symm,Below.next H3.out.2.2 HX.out⟩
   ·have HE:=hyd (HY.out rfl);clear HY HF2;go_wp2;go_roundw
    case rel=>exact⟨j+1,by omega,by go_num,HX.out,HE.out⟩
    case measure=>simp[intOf];omega
  ·have ij:¬(j:Int)<s.len:=by omega
   have HE:=hyd (HS.out.1 (fun i hi=>HL.out i (by omega)));go_wp2;go_ret;exact⟨zab HE.out.symm,Below.next H3.out.2.2 HB.out.1⟩
def cauV (v:Vp)(p:Int):Bool:=if p=-1 then true else if v.f.han v.p=-1 then leqB v.c.n v.c.g p v.f.e else v.fit ⟨1,fun _=>zaa 1 p⟩ v.sl0 (v.f.han v.p).toNat
theorem zrv (w0:World)(v:Vp)(g:Rw Bool)(BJ BS:Nat)(tT st sl:Ty)(k p:Int)(w:World)(h:Sr w0 v g BJ BS tT st sl k p w)(hh:v.f.han v.p≠-1→∃q:Nat,v.f.han v.p=q∧q<v.f.pt.len∧v.pt.sl.len=(v.f.pt.x q).sl.len)(hp2:∀i,i<v.pt.sl.len→(v.pt.sl.ps i).pn≤1000):Calls Tryz.prog 101 #[.pointer (some ⟨BS,0,none⟩)] w fun e w'=>e=.returned (.bool (cauV v p))∧Below w.heap.size w w':=by
 have H1:=hyd h;have HD:=hyd (show (v.f.han v.p≠-1→∃q:Nat,v.f.han v.p=q∧q<v.f.pt.len∧v.pt.sl.len=(v.f.pt.x q).sl.len)∧∀i,i<v.pt.sl.len→(v.pt.sl.ps i).pn≤1000 from ⟨hh,hp2⟩);have HC0:Hid (p=-1→cauV v p=true):=fun h=>by unfold cauV;rw[if_pos h]
 have HC1:Hid (p≠-1→v.f.han v.p=-1→cauV v p=leqB v.c.n v.c.g p v.f.e):=fun h k=>by unfold cauV;rw[if_neg h,if_pos k]
 have HC2:Hid (p≠-1→v.f.han v.p≠-1→cauV v p=fitP v.c.n v.c.g (v.f.pt.x (v.f.han v.p).toNat) ⟨1,fun _=>zaa 1 p⟩ v.pt.sl.sq):=fun h k=>by unfold cauV;rw[if_neg h,if_neg k];rfl
 generalize cauV v p=R at *;have s14:=h.b.cell 14 rfl;clear h hh hp2;go_enter Tryz.func101,Tryz.ntmps101
 by_cases hp:p=-1
 ·have HE:=hyd (HC0.out hp);subst hp;go_wp2;go_ret;exact⟨zab HE.out.symm,Below.refl _ _⟩
 have HP:=hyd hp;have e0:(p==-1)=false:=by simpa using hp
 clear hp HC0;go_upto_region 3 with fail
 clear e0 s14;have s0:=fun x:Gr w=>x.cell (H1.out.b.cell 0 rfl);have s1:=fun x:Gr w=>x.cell (H1.out.b.cell 1 rfl);have rF:∀u,(∃x:Gr w,u=x.w)→u.rangeAt BJ 3 v.f.vs:=fun _ hC=>by obtain⟨x,rfl⟩:=hC;exact zaf (zg8 H1.out.j) (Gr.bl x)
 have hNE:Nonempty (Gr w):=⟨⟨_,Below.refl _ _⟩⟩;have hHa:∀x:Gr w,Calls Tryz.prog 86 #[.agg v.f.vs.toArray,.int .i64 v.p] x.w fun e w'=>e=.returned (.int .i64 (v.f.han v.p))∧Below x.w.heap.size x.w w':=fun x=>zfx v.f v.p x.w (H1.out.kept x.bl).j.f H1.out.pl;have HHN:Hid (∃hh:Int,v.f.han v.p=hh):=⟨_,rfl⟩;obtain⟨hn,hhn⟩:=HHN.out;rw[hhn] at HC1 HC2 HD;simp only[hhn] at hHa;clear hhn HHN;refine zah (by kernel_rfl) (by kernel_rfl) ?_;iterate 6 go_big_quiet_step (fail)
 go_big_quiet_want;refine zad 44 (.tmp 15) rfl BJ 3 (by kernel_rfl) v.f.vs _ rF Tryz.underlying44 rfl (by kernel_rfl) ?_;simp only[Act.put,zA,zB,zC];go_big_quiet_on;iterate 4 go_big_quiet_step (fail)
 go_big_quiet_step ((go_at_call 86;exact Calls.gr _ (hHa _)))
 go_big_quiet_step (fail)
 refine wpQuiet_nil ?_;rintro y1 ⟨xg,rfl⟩;have Bg:=xg.bl;generalize xg.w=y1 at Bg ⊢;have H2:=hyd (show Sr w0 v g BJ BS tT st sl k p y1∧Below w.heap.size w y1 from ⟨H1.out.kept Bg,Bg⟩);clear xg Bg s0 s1 rF hNE hHa H1;by_cases hz:hn=-1
 ·have HE:=hyd (HC1.out HP.out hz);have ez:(hn==-1)=true:=by simpa using hz
  clear HC1 HC2 hz HD;go_upto_region 5 with fail
  clear ez;have s0:∀x:Wd (fun q=>Below y1.heap.size y1 q),x.w.cell? ⟨BS,0,none⟩=_:=fun x=>(H2.out.1.b.kept x.2).cell 0 rfl;have s14:∀x:Wd (fun q=>Below y1.heap.size y1 q),x.w.cell? ⟨BS,14,none⟩=_:=fun x=>(H2.out.1.b.kept x.2).cell 14 rfl;have j7:∀x:Wd (fun q=>Below y1.heap.size y1 q),x.w.cell? ⟨BJ,15,none⟩=_:=fun x=>(H2.out.1.j.b.kept x.2).cell 15 rfl;have hNE:Nonempty (Wd (fun q=>Below y1.heap.size y1 q)):=⟨⟨_,Below.refl _ _⟩⟩;have HV0:=hyd (Below.refl y1.heap.size y1).drew;refine zal (fun q=>Below y1.heap.size y1 q) [0,1,2,3,4,5,6,7,8,9,10,11,12,13,14,15] 3 (by kernel_rfl) rfl (by kernel_rfl) (za7 (by kernel_rfl)) HV0.out ?_;simp only[List.filterMap,zD,zE];iterate 16 go_big_quiet_step (fail)
  refine wpQuiet_nil ?_;clear s0 s14 j7 hNE;generalize y1.drew=v0 at *;refine wpAnyH_ready (rs:=[16]) (by kernel_rfl) (by simp) ?_;refine AllReadyH.cons rfl (fun K hK=>?_) AllReadyH.nil;rw[if_pos (by rfl)];refine znx (.tmp 39) rfl p (by kernel_rfl) ?_;intro v1 BL hb hl;have HV1:=hyd (Below.next HV0.out hb);refine hK.out _ _ HV1.out (fun _=>?_);clear hK K hb;go_simp;refine wpAnyH_ready (rs:=[17]) (by kernel_rfl) (by simp) ?_;refine AllReadyH.cons rfl (fun K hK=>?_) AllReadyH.nil;rw[if_pos (by rfl)];go_simp;refine (ze9 v.c v.f g BJ v.f.e BL 1 1 (lb1 p) v1 (H2.out.1.kept HV1.out).j hl (by omega)).mono ?_;rintro _ v2 ⟨rfl,hb⟩;have HV2:=hyd (Below.next HV1.out hb);rw[lqB_1];generalize leqB v.c.n v.c.g p v.f.e=bb at *;refine hK.out _ _ HV2.out (fun _=>?_);clear hK K hb hl;refine wpAnyH_ready (rs:=[18]) (by kernel_rfl) (by simp) ?_;refine AllReadyH.cons rfl (fun K hK=>?_) AllReadyH.nil;rw[if_pos (by rfl)];go_simp;refine hK.out _ _ HV2.out (fun _=>?_);clear hK K;refine wpAnyH_done (by kernel_rfl) ?_ _;refine⟨(fun c hc=>by cases hc),?_⟩;have HX:=hyd (Below.next H2.out.2 HV2.out);clear HV0 HV1 HV2 H2;go_wp2;go_ret;exact⟨zab HE.out.symm,HX.out⟩
 ·have HE:=hyd (HC2.out HP.out hz);obtain⟨q,rfl,hq,hql⟩:=HD.out.1 hz;have HQ:=hyd (show q<v.f.pt.len∧v.pt.sl.len=(v.f.pt.x q).sl.len∧∀i,i<v.pt.sl.len→(v.pt.sl.ps i).pn≤1000 from ⟨hq,hql,HD.out.2⟩);rw[Int.toNat_natCast] at HE;have ez:((q:Int)==-1)=false:=by first | (simp;done) | (simp;omega)
  clear HC1 HC2 hz HD hq hql;have s14:y1.cell? ⟨BS,14,none⟩=some (.int .i64 p):=H2.out.1.b.cell 14 rfl;have s0:y1.cell? ⟨BS,0,none⟩=some (.pointer (some ⟨BJ,0,none⟩)):=H2.out.1.b.cell 0 rfl;go_upto_region 7 with (first | (refine zao rfl rfl 38 rfl (.tmp 4) (.tmp 46) rfl zT5 (alloc_ty5 _) rfl (zaa 1 p).vs.toArray (by kernel_rfl) (by kernel_rfl) rfl (by kernel_rfl) (by simpa using (zaa 1 p).vs_one) ?_))
  simp only[Act.put,zA,zB,zC];have BA:=zac y1 (.cells (zaa 1 p).vs.toArray 38);have H3:=hyd (show (Sr w0 v g BJ BS tT st sl k p (y1.alloc (.cells (zaa 1 p).vs.toArray 38))∧Blk (y1.alloc (.cells (zaa 1 p).vs.toArray 38)) y1.heap.size (zaa 1 p).vs 38)∧Below w.heap.size w (y1.alloc (.cells (zaa 1 p).vs.toArray 38)) from ⟨⟨H2.out.1.kept BA,Blk.new y1 _ _⟩,Below.next H2.out.2 BA⟩);clear BA ez s14 s0 H2;generalize y1.alloc (.cells (zaa 1 p).vs.toArray 38)=u1 at *;generalize y1.heap.size=B4 at *;have s0:∀x:Wd (fun q=>Below u1.heap.size u1 q),x.w.cell? ⟨BS,0,none⟩=_:=fun x=>(H3.out.1.1.b.kept x.2).cell 0 rfl;have s1:∀x:Wd (fun q=>Below u1.heap.size u1 q),x.w.cell? ⟨BS,1,none⟩=_:=fun x=>(H3.out.1.1.b.kept x.2).cell 1 rfl;have rL:∀u,(∃x:Wd (fun q=>Below u1.heap.size u1 q),u=x.w)→u.rangeAt B4 0 (zaa 1 p).vs:=fun _ hC=>by obtain⟨x,rfl⟩:=hC;exact zaf (H3.out.1.2.range) x.2
  have j19:∀x:Wd (fun q=>Below u1.heap.size u1 q),x.w.cell? ⟨BJ,19,none⟩=some (.slice (some ⟨v.f.pt.b,v.f.pt.o,none⟩) v.f.pt.len v.f.pt.cap):=fun x=>by rw[←H3.out.1.1.jo.f.pt.nil (by have:=H3.out.1.1.pl;have:=H3.out.1.1.pp;omega)];exact (H3.out.1.1.kept x.2).j.b.cell 19 rfl
  have p1:∀x:Wd (fun q=>Below u1.heap.size u1 q),x.w.cell? ⟨v.f.pt.b,v.f.pt.o+v.p*3+1,none⟩=some (.slice v.pt.sl.ao v.pt.sl.len v.pt.sl.cap):=fun x=>up x.2 (H3.out.1.1.j.f.pt.row v.p (by rw[H3.out.1.1.pp];exact H3.out.1.1.pl) 1 _ rfl)
  have ip:(v.p:Int)<v.f.pt.len:=by have:=H3.out.1.1.pl;have:=H3.out.1.1.pp;omega
  have hNE:Nonempty (Wd (fun q=>Below u1.heap.size u1 q)):=⟨⟨_,Below.refl _ _⟩⟩;have HV0:=hyd (Below.refl u1.heap.size u1).drew;refine zal (fun q=>Below u1.heap.size u1 q) [0,1,2,3,4,6,7,8,9,10,11,12,13,14,15,16,17,18,19,20,22] 4 (by kernel_rfl) rfl (by kernel_rfl) (za7 (by kernel_rfl)) HV0.out ?_;simp only[List.filterMap,zD,zE];iterate 4 go_big_quiet_step (fail)
  go_big_quiet_want;refine zad 38 (.tmp 4) rfl B4 0 (by kernel_rfl) (zaa 1 p).vs _ rL Tryz.underlying38 rfl (by kernel_rfl) ?_;simp only[Act.put,zA,zB,zC];go_big_quiet_on;iterate 16 go_big_quiet_step (fail)
  refine wpQuiet_nil ?_;clear s0 s1 rL j19 p1 ip hNE;generalize u1.drew=v0 at *;refine wpAnyH_ready (rs:=[5]) (by kernel_rfl) (by simp) ?_;refine AllReadyH.cons rfl (fun K hK=>?_) AllReadyH.nil;rw[if_pos (by rfl)];refine zfb (.tmp 51) rfl (zaa 1 p) (by kernel_rfl) ?_;intro v1 BN hb hB hge;have HV1:=hyd (Below.next HV0.out hb);have HBN:=hyd hB;refine hK.out _ _ HV1.out (fun _=>?_);clear hK K hb hB hge;go_simp;refine wpAnyH_ready (rs:=[21]) (by kernel_rfl) (by simp) ?_;refine AllReadyH.cons rfl (fun K hK=>?_) AllReadyH.nil;rw[if_pos (by rfl)];go_simp;refine hK.out _ _ HV1.out (fun _=>?_);clear hK K;refine wpAnyH_ready (rs:=[23]) (by kernel_rfl) (by simp) ?_;refine AllReadyH.cons rfl (fun K hK=>?_) AllReadyH.nil;rw[if_pos (by rfl)];go_simp;have h0:=zhp v.c v.f g BJ (rowT BN 1 1 (fun _=>zaa 1 p)) v.pt.sl q v1 (H3.out.1.1.kept HV1.out).j (zf7 (by exact HBN.out) (fun _ _=>zav _ _ _) (by omega)) ((H3.out.1.1.kept HV1.out).j.f.pt.each v.p (by rw[H3.out.1.1.pp];exact H3.out.1.1.pl)).sl HQ.out.1 HQ.out.2.1 (fun _ _=>Nat.zero_le 1000) HQ.out.2.2
  refine h0.mono ?_;rintro _ v2 ⟨rfl,hb⟩;have HV2:=hyd (Below.next HV1.out hb);have HEQ:Hid (fitP v.c.n v.c.g (v.f.pt.x q) (rowT BN 1 1 fun _=>zaa 1 p).sq v.pt.sl.sq=R):=HE.out.symm;rw[HEQ.out];refine hK.out _ _ HV2.out (fun _=>?_);clear hK K hb h0;refine wpAnyH_ready (rs:=[24]) (by kernel_rfl) (by simp) ?_;refine AllReadyH.cons rfl (fun K hK=>?_) AllReadyH.nil;rw[if_pos (by rfl)];go_simp;refine hK.out _ _ HV2.out (fun _=>?_);clear hK K;refine wpAnyH_done (by kernel_rfl) ?_ _;refine⟨(fun c hc=>by cases hc),?_⟩;have HX:=hyd (Below.next H3.out.2 HV2.out);clear HV0 HV1 HV2 H3;go_wp2;go_ret;exact⟨rfl,HX.out⟩
noncomputable def conV (v:Vp) (g:Rw Bool) (k:Int):Bool:=if k=-1 then true else match (List.range v.f.rg.len).find? (fun i=>decide ((v.f.rg.x i).at_=v.p)) with | some i=>decide (v.f.hold g (v.f.rg.x i)=0)&&secV v k (v.f.rg.x i).ps | none=>false
theorem zrs (w0:World)(v:Vp)(g:Rw Bool)(BJ BS:Nat)(tT st sl:Ty)(k p:Int)(w:World)(h:Sr w0 v g BJ BS tT st sl k p w)(hA:Agd v.f)(hh:v.f.hd.len≤100000)(hps:∀i,i<v.f.rg.len→∀j,j<(v.f.rg.x i).ps.len→∃q:Nat,(v.f.rg.x i).ps.x j=q∧q<v.f.pt.len):Calls Tryz.prog 102 #[.pointer (some ⟨BS,0,none⟩)] w fun e w'=>e=.returned (.bool (conV v g k))∧Below w.heap.size w w':=by
 have H1:=hyd h;have HD:=hyd (show Agd v.f∧v.f.hd.len≤100000∧∀i,i<v.f.rg.len→∀j,j<(v.f.rg.x i).ps.len→∃q:Nat,(v.f.rg.x i).ps.x j=q∧q<v.f.pt.len from ⟨hA,hh,hps⟩);have HC0:Hid (k=-1→conV v g k=true):=fun h=>by unfold conV;rw[if_pos h]
 have HC1:Hid (k≠-1→(∀i,i<v.f.rg.len→(v.f.rg.x i).at_≠v.p)→conV v g k=false):=fun h hn=>by
  unfold conV;rw[if_neg h,List.find?_eq_none.2 (fun i hi=>by simpa using hn i (List.mem_range.1 hi))]
 have HC2:Hid (k≠-1→∀j,j<v.f.rg.len→(∀i,i<j→(v.f.rg.x i).at_≠v.p)→(v.f.rg.x j).at_=v.p→conV v g k=(decide (v.f.hold g (v.f.rg.x j)=0)&&secV v k (v.f.rg.x j).ps)):=fun h j hj hn he=>by
  unfold conV;rw[if_neg h,zed (p:=fun i=>decide ((v.f.rg.x i).at_=v.p)) hj (decide_eq_true he) (fun i hi=>decide_eq_false (hn i hi))]
 generalize conV v g k=R at *;have hbd:=h.j.f.rg.bound;have HNI:=hyd h.j.f.rg.nil;have s13:=h.b.cell 13 rfl;have s0:w.cell? ⟨BS,0,none⟩=some (.pointer (some ⟨BJ,0,none⟩)):=h.b.cell 0 rfl;have j20:w.cell? ⟨BJ,20,none⟩=some (.slice v.f.rg.ao v.f.rg.len v.f.rg.cap):=h.j.b.cell 20 rfl;clear h hA hh hps;go_enter Tryz.func102,Tryz.ntmps102
 by_cases hk:k=-1
 ·have HE:=hyd (HC0.out hk);subst hk;go_wp2;go_ret;exact⟨zab HE.out.symm,Below.refl _ _⟩
 have HK:=hyd (show k≠-1 from hk);have e0:(k==-1)=false:=by simpa using hk
 clear hk HC0;go_wp2;go_loopw [19] (fun i wr=>∃(j:Nat),j≤v.f.rg.len∧i=.int .i64 j∧Below w.heap.size w wr∧∀i,i<j→(v.f.rg.x i).at_≠v.p) (fun i _=>v.f.rg.len - (intOf i).toNat)
 case atStart=>exact⟨0,Nat.zero_le _,rfl,Below.refl _ _,fun i hi=>absurd hi (Nat.not_lt_zero _)⟩
 case round =>
  clear s0 s13 j20 e0;obtain⟨j,hj,rfl,hB,hall⟩:=hrel;have HB:=hyd (show Below w.heap.size w wr∧Sr w0 v g BJ BS tT st sl k p wr from ⟨hB,H1.out.kept hB⟩);have HL:=hyd hall;clear hB hall;by_cases hlt:j<v.f.rg.len
  ·have ij:(j:Int)<v.f.rg.len:=by omega
   have HC:=hyd (HC2.out HK.out j hlt HL.out);have HY:Hid ((v.f.rg.x j).at_≠v.p→∀i,i<j+1→(v.f.rg.x i).at_≠v.p):=fun hx i hi=>by
    by_cases e:i=j
    ·rw[e];exact hx
    ·exact HL.out i (by omega)
   have r0:=HB.out.2.j.f.rg.row j hlt;have HR:=hyd (HB.out.2.j.f.rg.each j hlt);have HPS:=hyd (HD.out.2.2 j hlt);rw[HNI.out (by omega)];clear hlt;generalize v.f.rg.x j=x at *;go_upto_region 6 with (first | (refine wpList_load_mid rfl 53 (.tmp 21) rfl v.f.rg.b (v.f.rg.o+j*3) (by kernel_rfl) x.vs _ r0 Tryz.underlying53 rfl (by kernel_rfl) ?_) | (refine zao rfl rfl 53 rfl (.tmp 4) (.tmp 22) rfl z_rn (zi6 _) rfl x.vs.toArray (by kernel_rfl) (by kernel_rfl) rfl (by kernel_rfl) (by simpa using x.vs_one) ?_))
   simp only[Act.put,zA,zB,zC];have BA:=zac wr (.cells x.vs.toArray 53);have H3:=hyd (show (Sr w0 v g BJ BS tT st sl k p (wr.alloc (.cells x.vs.toArray 53))∧Blk (wr.alloc (.cells x.vs.toArray 53)) wr.heap.size x.vs 53)∧(Below w.heap.size w (wr.alloc (.cells x.vs.toArray 53))∧x.At (wr.alloc (.cells x.vs.toArray 53))) from ⟨⟨HB.out.2.kept BA,Blk.new wr _ _⟩,Below.next HB.out.1 BA,HR.out.kept BA⟩);clear BA HR HB r0;generalize wr.alloc (.cells x.vs.toArray 53)=u1 at *;generalize wr.heap.size=B4 at *;have r0:=fun x:Gr u1=>x.cell (H3.out.1.2.cell 0 rfl);have s1:=fun x:Gr u1=>x.cell (H3.out.1.1.b.cell 1 rfl);have hNE:Nonempty (Gr u1):=⟨⟨_,Below.refl _ _⟩⟩;refine zah (by kernel_rfl) (by kernel_rfl) ?_;iterate 7 go_big_quiet_step (fail)
   refine wpQuiet_nil ?_;rintro y1 ⟨xg,rfl⟩;have Bg:=xg.bl;generalize xg.w=y1 at Bg ⊢;have H4:=hyd (show (Sr w0 v g BJ BS tT st sl k p y1∧Blk y1 B4 x.vs 53)∧(Below w.heap.size w y1∧x.At y1) from ⟨⟨H3.out.1.1.kept Bg,H3.out.1.2.kept Bg⟩,Below.next H3.out.2.1 Bg,H3.out.2.2.kept Bg⟩);clear xg Bg r0 s1 hNE H3;by_cases hat:x.at_=v.p
   ·have HE:=hyd (HC.out hat);have e0:(x.at_==(v.p:Int))=true:=by simpa using hat
    clear HC HY HC1 HC2 HL;go_upto_region 7 with fail
    clear e0 hat;have s0:=fun x:Gr y1=>x.cell (H4.out.1.1.b.cell 0 rfl);have rF:∀u,(∃x:Gr y1,u=x.w)→u.rangeAt BJ 3 v.f.vs:=fun _ hC=>by obtain⟨x,rfl⟩:=hC;exact zaf (zg8 H4.out.1.1.j) (Gr.bl x)
    have j22:=fun x:Gr y1=>x.cell (H4.out.1.1.j.b.cell 22 rfl);have rX:∀u,(∃x:Gr y1,u=x.w)→u.rangeAt B4 0 x.vs:=fun _ hC=>by obtain⟨x,rfl⟩:=hC;exact zaf (H4.out.1.2.range) (Gr.bl x)
    have x2:=fun x:Gr y1=>x.cell (H4.out.1.2.cell 2 rfl);have hNE:Nonempty (Gr y1):=⟨⟨_,Below.refl _ _⟩⟩;have hho:∀z:Gr y1,Calls Tryz.prog 16 #[.agg v.f.vs.toArray,.slice g.ao g.len g.cap,.agg x.vs.toArray] z.w fun e w'=>e=.returned (.int .i64 (v.f.hold g x))∧Below z.w.heap.size z.w w':=fun z=>zok v.f g x z.w (H4.out.1.1.kept z.bl).j.f (H4.out.1.1.kept z.bl).j.g (H4.out.2.2.kept z.bl) HD.out.1 HD.out.2.1;have hse:∀z:Gr y1,Calls Tryz.prog 147 #[.pointer (some ⟨BS,0,none⟩),.slice x.ps.ao x.ps.len x.ps.cap] z.w fun e w'=>e=.returned (.bool (secV v k x.ps))∧Below z.w.heap.size z.w w':=fun z=>zq1 w0 v g BJ BS tT st sl k p x.ps z.w (H4.out.1.1.kept z.bl) (H4.out.2.2.kept z.bl).ps HPS.out;generalize v.f.hold g x=hv at *;generalize secV v k x.ps=sv at *;by_cases hz:hv=0
    ·subst hz;refine zah (by kernel_rfl) (by kernel_rfl) ?_;iterate 6 go_big_quiet_step (fail)
     go_big_quiet_want;refine zad 44 (.tmp 35) rfl BJ 3 (by kernel_rfl) v.f.vs _ rF Tryz.underlying44 rfl (by kernel_rfl) ?_;simp only[Act.put,zA,zB,zC];go_big_quiet_on;iterate 7 go_big_quiet_step (fail)
     go_big_quiet_want;refine zad 53 (.tmp 4) rfl B4 0 (by kernel_rfl) x.vs _ rX Tryz.underlying53 rfl (by kernel_rfl) ?_;simp only[Act.put,zA,zB,zC];go_big_quiet_on;go_big_quiet_step ((go_at_call 16;exact Calls.gr _ (hho _)))
     iterate 5 go_big_quiet_step (fail)
     go_big_quiet_step ((go_at_call 147;exact Calls.gr _ (hse _)))
     iterate 2 go_big_quiet_step (fail)
     refine wpQuiet_nil ?_;rintro y2 ⟨xg,rfl⟩;have Bg:=xg.bl;generalize xg.w=y2 at Bg ⊢;have HX:=hyd (Below.next H4.out.2.1 Bg);clear xg Bg s0 rF j22 rX x2 hNE hho hse H4;go_wp2;go_ret;exact⟨zab (by rw[HE.out];rfl),HX.out⟩
    ·have e0:(hv==0)=false:=by simpa using hz
     refine zah (by kernel_rfl) (by kernel_rfl) ?_;iterate 6 go_big_quiet_step (fail)
     go_big_quiet_want;refine zad 44 (.tmp 35) rfl BJ 3 (by kernel_rfl) v.f.vs _ rF Tryz.underlying44 rfl (by kernel_rfl) ?_;simp only[Act.put,zA,zB,zC];go_big_quiet_on;iterate 7 go_big_quiet_step (fail)
     go_big_quiet_want;refine zad 53 (.tmp 4) rfl B4 0 (by kernel_rfl) x.vs _ rX Tryz.underlying53 rfl (by kernel_rfl) ?_;simp only[Act.put,zA,zB,zC];go_big_quiet_on;go_big_quiet_step ((go_at_call 16;exact Calls.gr _ (hho _)))
     iterate 8 go_big_quiet_step (fail)
     refine wpQuiet_nil ?_;rintro y2 ⟨xg,rfl⟩;have Bg:=xg.bl;generalize xg.w=y2 at Bg ⊢;have HX:=hyd (Below.next H4.out.2.1 Bg);clear xg Bg s0 rF j22 rX x2 hNE hho hse H4;go_wp2;go_ret;exact⟨zab (by rw[HE.out,decide_eq_false hz];rfl),HX.out⟩
   ·have HE:=hyd (HY.out hat);have e0:(x.at_==(v.p:Int))=false:=by simpa using hat
    clear HC HY hat;go_wp2;go_roundw
    case rel=>exact⟨j+1,by omega,by go_num,H4.out.2.1,HE.out⟩
    case measure=>simp[intOf];omega
  ·have ij:¬(j:Int)<v.f.rg.len:=by omega
   have HE:=hyd (HC1.out HK.out (fun i hi=>HL.out i (by omega)));go_wp2;go_ret;exact⟨zab HE.out.symm,HB.out.1⟩
theorem zs9 (n:Nat):(Builtin.zeroCells (Value.agg zT5.toArray).cells n).toList=zai (fun _=>zaa 0 0) n:=by
 have e:Builtin.zeroCells (Value.agg zT5.toArray).cells n=madeCells (Value.agg zT5.toArray).cells (n*5):=rfl;rw[e];exact zlp n
theorem flat_app (d d':Nat→Ty)(n:Nat):∀m,zai d n++zai d' m=zai (fun i=>if i<n then d i else d' (i - n)) (n+m)
 | 0=>by
  show zai d n++[]=_
  rw[List.append_nil];exact zcs n (fun i hi=>by rw[if_pos hi])
 | m+1=>by
  show zai d n++(zai d' m++(d' m).vs)=zai _ (n+m)++(if n+m<n then d (n+m) else d' (n+m - n)).vs
  rw[←List.append_assoc,flat_app d d' n m,if_neg (by omega),show n+m - n=m by omega]
theorem zd5 {w:World}{o:Oper}{a:Act}{K:Act→World→Prop}{Q:Exit→Act→World→Prop}(s x:Operand)(ho:o.op=.call { callee:=.builtin .append,args:=#[s,x],argTypes:=#[36,36] })(B n:Nat)(d:Nat→Ty)(hs:a.eval s=.slice (some ⟨B,0,none⟩) n n)(hb:Blk w B (zai d n) 38)(B2:Nat)(hx:a.eval x=.slice (some ⟨B2,0,none⟩) 1 1)(hb2:Blk w B2 (zaa 0 0).vs 38)(hn:n≤1000)
  (h:∀w' G cap,Below w.heap.size w w'→Blk w' G (zai (fun i=>if i<n then d i else zaa 0 0) cap) 38→w.heap.size≤G→n+1≤cap→K (a.put o.dst (.slice (some ⟨G,0,none⟩) (n+1:Nat) cap)) w'):o.wp Tryz.prog a w K Q:=by
 obtain⟨i0,hi,hz0,hz1,hz2⟩:=info_parts Tryz.infoTy5;have hge:=grownCap_ge w (n+1) n 38;have hr:=run_append_grow (P:=Tryz.prog) w 36 o.type 38 i0 _ Tryz.underlying36 hi hz0 ⟨B,0,none⟩ n n (zai d n) (by rw[flat_len,hz1]) (fun j v hj=>by rw[adp,Nat.zero_add];exact hb.cell j hj) ⟨B2,0,none⟩ 1 1 (zaa 0 0).vs (by rw[hz1];rfl) (fun j v hj=>by rw[adp,Nat.zero_add];exact hb2.cell j hj) (by omega) (by omega) (growslice_fits (by omega) (by rw[hz2];omega))
 generalize grownCap w (n+1) n 38=cap at *;unfold Oper.wp execOp;simp only[ho,resolve,invoke,builtin,Sem.run_bind,Sem.run_pure,Result.andThen_ok,List.map_toArray,List.map_cons,List.map_nil,hs,hx,hr];refine h _ w.heap.size cap ?_ ?_ (Nat.le_refl _) hge
 ·exact (Below.refl _ _).drew.alloc (Nat.le_refl _) _
 ·have e:((zai d n).toArray++(zaa 0 0).vs.toArray++Builtin.zeroCells (Value.agg zT5.toArray).cells (cap - (n+1)))=(zai (fun i=>if i<n then d i else zaa 0 0) cap).toArray:=by
   apply Array.toList_inj.1
   rw[Array.toList_append,Array.toList_append,zs9];show zai d n++zai (fun _=>zaa 0 0) 1++zai (fun _=>zaa 0 0) (cap - (n+1))=_
   rw[flat_app,flat_app,show n+1+(cap - (n+1))=cap by omega];refine zcs cap (fun i hi=>?_);by_cases h1:i<n
   ·rw[if_pos (by omega),if_pos h1]
   ·rw[if_neg h1];split <;> rfl
  rw[e];exact Blk.new w.drew _ _
theorem zto {w:World}{B n N cap:Nat}{d:Nat→Ty}(h:Blk w B (zai d N) 38)(hN:n≤N)(hd:∀i,i<n→(d i).At w)(hn:n≤100000):(rowT B n cap d).At w:=by
 refine⟨fun _=>rfl,by show n≤_;omega,fun i hi=>⟨zpm (fun j v hj=>?_),hd i hi⟩⟩
 have hj5:j<5:=(List.getElem?_eq_some_iff.1 hj).1;have:=h.cell (i*5+j) (by rw[zbj d N i j (by omega) hj5];exact hj)
 rwa [show 0+i*5+j=i*5+j by omega]
theorem zds {o:Oper}{a:Act}{w:World}{K:Act→World→Prop}{Q:Exit→Act→World→Prop}(x:Operand)(ho:o.op=.buildSlice 36 1 #[(0,x)])(hx:a.eval x=.agg #[.int .i64 0,.int .i64 0,.slice none 0 0,.int .i64 0,.int .i64 0])(h:∀u B,Below w.heap.size w u→Blk u B (zaa 0 0).vs 38→w.heap.size≤B→K (a.put o.dst (.slice (some ⟨B,0,none⟩) 1 1)) u):o.wp Tryz.prog a w K Q:=zfb x ho (zaa 0 0) hx h
end
end Go.Proofs.YtfobijdkoeifjaaGreatDoor
