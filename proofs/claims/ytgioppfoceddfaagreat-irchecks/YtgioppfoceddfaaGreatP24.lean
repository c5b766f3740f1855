import Derived.Test.YtgioppfoceddfaaGreatP23
set_option maxRecDepth 100000
set_option maxHeartbeats 32000000
namespace Go.Proofs.YtgioppfoceddfaaGreat
section
open Go Go.RowKit
theorem setL_k (t:Ty)(j:Int):(t.setL j).k=t.k:=by cases t <;> rfl
theorem zvs (t:Ty)(j:Int):(t.setL j).len=t.len:=by cases t <;> rfl
theorem fm_ar {N:Nat}{t:Ty}{d:Nat}(h:t.fm N d=true):(t.len:Int)=zan t.k:=by
 cases t with
 | dm=>cases h
 | mk k l hh e ao b o len cap ps =>
  unfold Ty.fm at h;simp only[Bool.and_eq_true,beq_iff_eq] at h;exact h.1.1.1.2
theorem zfd {n:Strs}{g:Grid}{t:Ty}{a k:Int}(hk:k≠0)(h:(zai n g t a).k=k):((zai n g t a).len:Int)=zan k:=by
 unfold zai at h ⊢;split at h
 ·rename_i hc
  rw[if_pos hc];rw[setL_k] at h;rw[zvs,←h];simp only[Bool.and_eq_true] at hc;have h1:=hc.1;unfold okB Ty.ok at h1;simp only[Bool.and_eq_true] at h1;exact fm_ar h1.2.1
 ·exact absurd h.symm hk
theorem zdd {u r:Ty}(h:u.same r=true):u.len=r.len:=((zbb u r).1 h).1.2.2.2.2
theorem same_h {u r:Ty}(h:u.same r=true):u.h=r.h:=((zbb u r).1 h).1.2.2.1
theorem same_e {u r:Ty}(h:u.same r=true):u.e=r.e:=((zbb u r).1 h).1.2.2.2.1
theorem zgz {u r:Ty}(h:u.same r=true){i:Nat}(hi:i<u.len):(u.ps i).same (r.ps i)=true:=((zbb u r).1 h).2 i hi
theorem ze7:∀{t:Ty},t.Nd→∀{i:Nat},i<t.len→(t.ps i).Nd
 | .dm,h,_,_=>h.elim
 | .mk _ _ _ _ _ _ _ _ _ _,h,i,hi=>h i hi
theorem ze2 {j:Jd}{nd:Nd}{i:Int}{w:World}(hj:j.At w)(h0:0≤i)(h1:i<j.f.slots.len):(j.read nd i).Nd:=by
 unfold Jd.read;exact zbf ((hj.f.slots.part (i:=i.toNat) (by omega)).nd)
theorem zvz (k:Int)(t:Ty)(w:World):Calls Tryz.prog 117 #[.int .i64 k,.agg t.vs.toArray] w fun e w'=>e=.returned (.agg (zby k t).vs.toArray)∧Below w.heap.size w w'∧WroteB ((w.alloc (.cells t.vs.toArray 38)).alloc (.cells zTv.toArray 38)) w' (w.heap.size+1) (zby k t).vs 38:=by
 have H:=zar [.cells t.vs.toArray 38,.cells zTv.toArray 38] w;have B0:=zap [.cells t.vs.toArray 38,.cells zTv.toArray 38] w;simp only[List.foldl] at H B0;have bT:Blk _ w.heap.size t.vs 38:=H 0 (by simp);have bZ:Blk _ (w.heap.size+1) zTv 38:=H 1 (by simp);clear H;unfold zTv at B0 bT bZ ⊢;have c0:=bT.cell 0 (v:=.int .i64 t.k) rfl;cases hq:(t.k != k)
 ·have HG:Hid (zby k t=t):=by show _=_;unfold zby;rw[hq];rfl
  rw[HG.out];go_enter Tryz.func117,Tryz.ntmps117
  go_wp2_with (first | (refine wpList_load_mid rfl 38 (.tmp 3) rfl w.heap.size 0 (by kernel_rfl) t.vs _ bT.range Tryz.underlying38 rfl (by kernel_rfl) ?_) | (refine zae rfl rfl 38 (.tmp 4) (.tmp 10) rfl (w.heap.size+1) t.vs (by kernel_rfl) (by kernel_rfl) t.vs_one bZ rfl (by kernel_rfl) ?_;intro w2 W2));have z0:=W2.blk.cell 0 (v:=.int .i64 t.k) rfl;have z1:=W2.blk.cell 1 (v:=.int .i64 t.l) rfl;have z2:=W2.blk.cell 2 (v:=.slice t.ao t.len t.cap) rfl;have z3:=W2.blk.cell 3 (v:=.int .i64 t.h) rfl;have z4:=W2.blk.cell 4 (v:=.int .i64 t.e) rfl;exact bodyPost_ret (v:=.agg t.vs.toArray) (by simp[results,Tryz.results117,go_sem,z0,z1,z2,z3,z4,Ty.vs]) rfl ⟨rfl,W2.below (by omega) B0,W2⟩
 ·have HG:Hid (zby k t=leafT 0 0):=by show _=_;unfold zby;rw[hq];rfl
  rw[HG.out];go_enter Tryz.func117,Tryz.ntmps117
  go_wp2_with (refine zae rfl rfl 38 (.tmp 4) (.tmp 9) rfl (w.heap.size+1) (leafT 0 0).vs (by kernel_rfl) (by kernel_rfl) rfl bZ rfl (by kernel_rfl) ?_;intro w2 W2);have z0:=W2.blk.cell 0 (v:=.int .i64 0) rfl;have z1:=W2.blk.cell 1 (v:=.int .i64 0) rfl;have z2:=W2.blk.cell 2 (v:=.slice none 0 0) rfl;have z3:=W2.blk.cell 3 (v:=.int .i64 0) rfl;have z4:=W2.blk.cell 4 (v:=.int .i64 0) rfl;exact bodyPost_ret (v:=.agg (leafT 0 0).vs.toArray) (by simp[results,Tryz.results117,go_sem,z0,z1,z2,z3,z4,Ty.vs,leafT,Ty.k,Ty.l,Ty.ao,Ty.len,Ty.cap,Ty.h,Ty.e]) rfl ⟨rfl,W2.below (by omega) B0,W2⟩
theorem zwk (D:Nat)(k:Int)(t:Ty)(w:World)(m:Nat)(hA:t.At w)(hk:t.Blk (fun b=>b<D∨m≤b)):Calls Tryz.prog 117 #[.int .i64 k,.agg t.vs.toArray] w fun e w'=>∃u:Ty,e=.returned (.agg u.vs.toArray)∧u.At w'∧u.Blk (fun b=>b<D∨m≤b)∧u.same (zby k t)=true∧Below w.heap.size w w':=by
 refine (zvz k t w).mono ?_;rintro _ w' ⟨rfl,hb,_⟩;refine⟨zby k t,rfl,?_,?_,same_refl _,hb⟩
 ·unfold zby;split
  ·exact zay _ _ _
  ·exact hA.kept hb
 ·unfold zby;split
  ·exact zdz _ _ _
  ·exact hk
theorem zrs {k:Int}{u r:Ty}(h:u.same r=true):(zby k u).same (zby k r)=true:=by
 unfold zby;rw[zdn h];split
 ·exact same_refl _
 ·exact h
theorem zrj (D:Nat)(j:Jd)(nd:Nd)(w:World)(hj:j.At w)(hD:D≤w.heap.size)(hop:nd.h.op=5)(hc:∀u,Below w.heap.size w u→Calls Tryz.prog 89 #[.agg j.vs.toArray,.agg nd.vs.toArray,.int .i64 nd.h.a] u (zbh D (j.read nd nd.h.a) u)):zbl D j nd w:=by
 unfold zbl;have HI:=hid (zb5 w j nd hj);have HG:Hid (j.makes nd=(zby 2 (j.read nd nd.h.a),-1)):=by show _=_;unfold Jd.makes;rw[hop];rfl
 have c0:=HI.out.N.cell 0 (v:=.int .i64 nd.h.op) rfl;have c2:=HI.out.N.cell 2 (v:=.int .i64 nd.h.a) rfl;have HP:Hid (∀u,Below w.heap.size w u→Calls Tryz.prog 89 #[.agg j.vs.toArray,.agg nd.vs.toArray,.int .i64 nd.h.a] u (zbh D (j.read nd nd.h.a) u)):=hc;rw[hop] at c0;unfold mkW at HI c0 c2;clear hop hc hj;go_enter Tryz.func91,Tryz.ntmps91
 go_upto_region 1 with fail
 generalize (((w.alloc (.cells j.va 48)).alloc (.cells nd.va 65)).alloc (.cells #[.int .i64 0,.int .i64 0,.slice none 0 0,.int .i64 0,.int .i64 0] 38))=w1 at *;have bJ:=HI.out.J;have bN:=HI.out.N;go_wp2_with (first | (refine wpList_load_mid rfl 48 (.tmp 2) rfl w.heap.size 0 (by kernel_rfl) j.vs _ bJ.range Tryz.underlying48 rfl (by kernel_rfl) ?_) | (refine wpList_load_mid rfl 65 (.tmp 3) rfl (w.heap.size+1) 0 (by kernel_rfl) nd.vs _ bN.range Tryz.underlying65 rfl (by kernel_rfl) ?_))
 refine (HP.out w1 HI.out.bl).mono ?_;rintro _ w2 ⟨u0,rfl,uA0,uB0,uS0,hb0⟩;have HI1:=hid (HI.out.kept hb0);have HR:=hid (zwk D 2 u0 w2 (w.heap.size+3) uA0 (uB0.mono (fun b h=>by have:=HI.out.sz;omega)))
 have HS:=hid (zrs (k:=2) uS0);clear HI bJ bN c0 c2 HP hb0 uA0 uB0 uS0;go_wp2_with fail
 refine HR.out.mono ?_;rintro _ w3 ⟨u,rfl,uA,uB,uS,hb⟩;have HI2:=hid (HI1.out.kept hb);have HU:=hid (show u.At w3∧u.Blk (fun b=>b<D∨w.heap.size+3≤b)∧u.same (zby 2 (j.read nd nd.h.a))=true from ⟨uA,uB,zb4 _ _ _ uS HS.out⟩);have bZ:=HI2.out.Z;clear HI1 hb uA uB uS HR HS;go_wp2_with (refine zae rfl rfl 38 (.tmp 4) (.tmp 40) rfl (w.heap.size+2) u.vs (by kernel_rfl) (by kernel_rfl) u.vs_one bZ rfl (by kernel_rfl) ?_;intro w4 W2);have z0:=W2.blk.cell 0 (v:=.int .i64 u.k) rfl;have z1:=W2.blk.cell 1 (v:=.int .i64 u.l) rfl;have z2:=W2.blk.cell 2 (v:=.slice u.ao u.len u.cap) rfl;have z3:=W2.blk.cell 3 (v:=.int .i64 u.h) rfl;have z4:=W2.blk.cell 4 (v:=.int .i64 u.e) rfl;refine bodyPost_ret (v:=.tuple #[.agg u.vs.toArray,.int .i64 (-1)]) (by simp[results,Tryz.results91,go_sem,z0,z1,z2,z3,z4,Ty.vs]) rfl ?_;rw[HG.out];exact zdl u (HU.out.1.wrote HU.out.2.1 W2 (by omega) (by omega)) (HU.out.2.1.mono (fun b h=>by omega)) HU.out.2.2 (W2.below (by omega) HI2.out.bl)
theorem zns (D:Nat)(j:Jd)(nd:Nd)(i:Nat)(hi:i<2)(w:World)(hj:j.At w)(hD:D≤w.heap.size)(ha:0≤nd.h.a)(ha1:nd.h.a<j.f.slots.len) :
  Calls Tryz.prog 118 #[.agg j.va,.agg nd.va,.int .i64 i] w (zbh D (j.side nd i) w):=by
 have HI:=hid (zb5 w j nd hj);have HH:=hid (show 0≤nd.h.a∧nd.h.a<j.f.slots.len∧D≤w.heap.size from ⟨ha,ha1,hD⟩);have HR:=hid (ze2 (nd:=nd) hj ha ha1);have c2:=HI.out.N.cell 2 (v:=.int .i64 nd.h.a) rfl;unfold mkW at HI c2;clear hj ha ha1 hD;go_enter Tryz.func118,Tryz.ntmps118
 go_upto_region 1 with fail
 generalize (((w.alloc (.cells j.va 48)).alloc (.cells nd.va 65)).alloc (.cells #[.int .i64 0,.int .i64 0,.slice none 0 0,.int .i64 0,.int .i64 0] 38))=w1 at *;have bJ:=HI.out.J;have bN:=HI.out.N;go_wp2_with (first | (refine wpList_load_mid rfl 48 (.tmp 3) rfl w.heap.size 0 (by kernel_rfl) j.vs _ bJ.range Tryz.underlying48 rfl (by kernel_rfl) ?_) | (refine wpList_load_mid rfl 65 (.tmp 4) rfl (w.heap.size+1) 0 (by kernel_rfl) nd.vs _ bN.range Tryz.underlying65 rfl (by kernel_rfl) ?_))
 refine (zbk D j nd nd.h.a w1 HI.out.hj (by have h1:=HI.out.bl.size;have h2:=HH.out.2.2;omega) HH.out.1 HH.out.2.1).mono ?_
 rintro _ w2 ⟨u,rfl,uA,uB,uS,hb⟩;have HI2:=hid (HI.out.kept hb);have HU:=hid (show u.At w2∧u.Blk (fun b=>b<D∨w.heap.size+3≤b)∧u.same (j.read nd nd.h.a)=true from ⟨uA,uB.mono (fun b h=>by have:=HI.out.sz;omega),uS⟩)
 clear HI c2 bJ bN hb uA uB uS;have hN:=zac w2 (.cells u.vs.toArray 38);have HB:=hid (show Mk w j nd (w2.alloc (.cells u.vs.toArray 38))∧Blk (w2.alloc (.cells u.vs.toArray 38)) w2.heap.size u.vs 38∧u.At (w2.alloc (.cells u.vs.toArray 38))∧w.heap.size+3≤w2.heap.size from ⟨HI2.out.kept hN,Blk.new w2 _ _,HU.out.1.kept hN,HI2.out.sz⟩);clear hN HI2;go_upto_region 2 with (refine zao rfl rfl 38 rfl (.tmp 7) (.tmp 12) rfl zTv (alloc_ty _) rfl u.vs.toArray (by kernel_rfl) (by kernel_rfl) rfl (by kernel_rfl) (by simpa using u.vs_one) ?_)
 generalize (w2.alloc (.cells u.vs.toArray 38))=w3 at *;generalize w2.heap.size=B at *;have x0:=HB.out.2.1.cell 0 (v:=.int .i64 u.k) rfl;have HK:=hid (zdn HU.out.2.2);cases hq:(u.k != 3)
 ·have HG:Hid (j.side nd i=zai j.n j.g ((j.read nd nd.h.a).ps i) (j.read nd nd.h.a).l):=by
   show _=_
   unfold Jd.side;rw[←HK.out,hq];rfl
  have HL:=hid (show i<u.len from by
   have h1:(j.read nd nd.h.a).k=3:=by rw[←HK.out];simpa using hq
   have h2:=zfd (n:=j.n) (g:=j.g) (t:=j.f.slots.ps nd.h.a.toNat) (a:=nd.h.env) (k:=3) (by decide) h1;have h3:zan 3=2:=by decide
   have h4:=zdd HU.out.2.2;have h5:(u.len:Int)=2:=by rw[h4,←h3];exact h2
   omega)
  go_upto_region 4 with fail
  have x1:∀x:Gr w3,x.w.cell? ⟨B,1,none⟩=some (.int .i64 u.l):=fun x=>(HB.out.2.1.kept x.bl).cell 1 rfl;have x2:∀x:Gr w3,x.w.cell? ⟨B,2,none⟩=some (.slice u.ao u.len u.cap):=fun x=>(HB.out.2.1.kept x.bl).cell 2 rfl;have hC0:∀q,(∃x:Gr w3,q=x.w)→q.rangeAt w.heap.size 0 j.vs:=by rintro _ ⟨x,rfl⟩;exact (HB.out.1.J.kept x.bl).range
  have hC1:∀q,(∃x:Gr w3,q=x.w)→q.rangeAt u.b (u.o+i*5) (u.ps i).vs:=by rintro _ ⟨x,rfl⟩;exact C5.row ((HB.out.2.2.1.kept x.bl).cells HL.out)
  rw[HB.out.2.2.1.nil (Nat.lt_of_le_of_lt (Nat.zero_le _) HL.out)] at x2;have hNE:Nonempty (Gr w3):=⟨⟨_,Below.refl _ _⟩⟩;have hlt:((i:Nat):Int)<u.len:=by have:=HL.out;omega
  clear x0 hq;refine zah 8 (by kernel_rfl) (by kernel_rfl) ?_;simp only[List.take,List.drop];go_big_quiet_want;refine zaa 48 (.tmp 3) rfl _ 0 (by kernel_rfl) j.vs _ hC0 Tryz.underlying48 rfl (by kernel_rfl) ?_;simp only[Act.put,zA,zB,zC];go_big_quiet_on;iterate 4 go_big_quiet_step (fail)
  go_big_quiet_want;refine zaa 38 (.tmp 21) rfl u.b (u.o+i*5) (by kernel_rfl) (u.ps i).vs _ hC1 Tryz.underlying38 rfl (by kernel_rfl) ?_;simp only[Act.put,zA,zB,zC];go_big_quiet_on;iterate 2 go_big_quiet_step (fail)
  refine wpQuiet_nil ?_;rintro w4 ⟨x4,rfl⟩;have B5:=x4.bl;generalize x4.w=w4 at B5 ⊢;have hR:=zdh D j (u.ps i) u.l w4 (HB.out.1.hj.n.kept B5) (HB.out.1.hj.g.kept B5) ((HB.out.2.2.1.kept B5).part HL.out) (by have h1:=HB.out.1.sz;have h2:=B5.size;have h3:=HH.out.2.2;omega)
  have HS:=hid (show (zai j.n j.g (u.ps i) u.l).same (j.side nd i)=true from by
   rw[HG.out,zee HU.out.2.2];exact zch (ze7 HU.out.1.nd HL.out) (ze7 HR.out (by rw[←zdd HU.out.2.2];exact HL.out)) (zgz HU.out.2.2 HL.out))
  clear x4 x1 x2 hNE hC0 hC1 hlt;go_wp2_with fail
  refine hR.mono ?_;rintro _ w5 ⟨v,rfl,vA,vB,vS,hb1⟩;have HI5:=hid ((HB.out.1.kept B5).kept hb1);have HV:Hid (v.At w5∧v.same (j.side nd i)=true∧v.Blk (fun b=>b<D∨w.heap.size+3≤b)):=⟨vA,zb4 _ _ _ vS HS.out,vB.mono (fun b h=>by have h1:=HB.out.1.sz;have h2:=B5.size;omega)⟩
  have bZ:=HI5.out.Z;have hD:=HH.out.2.2;clear hR vA vB vS hb1 B5 HB HU;go_wp2_with (refine zae rfl rfl 38 (.tmp 6) (.tmp 25) rfl (w.heap.size+2) v.vs (by kernel_rfl) (by kernel_rfl) v.vs_one bZ rfl (by kernel_rfl) ?_;intro w6 W2);have z0:=W2.blk.cell 0 (v:=.int .i64 v.k) rfl;have z1:=W2.blk.cell 1 (v:=.int .i64 v.l) rfl;have z2:=W2.blk.cell 2 (v:=.slice v.ao v.len v.cap) rfl;have z3:=W2.blk.cell 3 (v:=.int .i64 v.h) rfl;have z4:=W2.blk.cell 4 (v:=.int .i64 v.e) rfl;exact bodyPost_ret (v:=.agg v.vs.toArray) (by simp[results,Tryz.results118,go_sem,z0,z1,z2,z3,z4,Ty.vs]) rfl ⟨v,rfl,HV.out.1.wrote HV.out.2.2 W2 (by omega) (by omega),HV.out.2.2.mono (fun b h=>by omega),HV.out.2.1,W2.below (by omega) HI5.out.bl⟩
 ·have HG:Hid (j.side nd i=leafT 0 0):=by
   show _=_
   unfold Jd.side;rw[←HK.out,hq];rfl
  have bZ:=HB.out.1.Z;go_wp2_with (refine zae rfl rfl 38 (.tmp 6) (.tmp 16) rfl (w.heap.size+2) (leafT 0 0).vs (by kernel_rfl) (by kernel_rfl) rfl bZ rfl (by kernel_rfl) ?_;intro w6 W2);have z0:=W2.blk.cell 0 (v:=.int .i64 0) rfl;have z1:=W2.blk.cell 1 (v:=.int .i64 0) rfl;have z2:=W2.blk.cell 2 (v:=.slice none 0 0) rfl;have z3:=W2.blk.cell 3 (v:=.int .i64 0) rfl;have z4:=W2.blk.cell 4 (v:=.int .i64 0) rfl;exact bodyPost_ret (v:=.agg (leafT 0 0).vs.toArray) (by simp[results,Tryz.results118,go_sem,z0,z1,z2,z3,z4,Ty.vs,leafT,Ty.k,Ty.l,Ty.ao,Ty.len,Ty.cap,Ty.h,Ty.e]) rfl ⟨leafT 0 0,rfl,zay _ _ _,zdz _ _ _,by rw[HG.out];exact same_refl _,W2.below (by omega) HB.out.1.bl⟩
theorem zwd (D:Nat)(j:Jd)(nd:Nd)(w:World)(hj:j.At w)(hD:D≤w.heap.size)(ha:0≤nd.h.a)(ha1:nd.h.a<j.f.slots.len) :
  Calls Tryz.prog 122 #[.agg j.va,.agg nd.va] w (zbh D (j.held nd) w):=by
 have HI:=hid (zb5 w j nd hj);have HH:=hid (show 0≤nd.h.a∧nd.h.a<j.f.slots.len∧D≤w.heap.size from ⟨ha,ha1,hD⟩);have HR:=hid (ze2 (nd:=nd) hj ha ha1);have c2:=HI.out.N.cell 2 (v:=.int .i64 nd.h.a) rfl;unfold mkW at HI c2;clear hj ha ha1 hD;go_enter Tryz.func122,Tryz.ntmps122
 go_upto_region 1 with fail
 generalize (((w.alloc (.cells j.va 48)).alloc (.cells nd.va 65)).alloc (.cells #[.int .i64 0,.int .i64 0,.slice none 0 0,.int .i64 0,.int .i64 0] 38))=w1 at *;have bJ:=HI.out.J;have bN:=HI.out.N;go_wp2_with (first | (refine wpList_load_mid rfl 48 (.tmp 2) rfl w.heap.size 0 (by kernel_rfl) j.vs _ bJ.range Tryz.underlying48 rfl (by kernel_rfl) ?_) | (refine wpList_load_mid rfl 65 (.tmp 3) rfl (w.heap.size+1) 0 (by kernel_rfl) nd.vs _ bN.range Tryz.underlying65 rfl (by kernel_rfl) ?_))
 refine (zbk D j nd nd.h.a w1 HI.out.hj (by have h1:=HI.out.bl.size;have h2:=HH.out.2.2;omega) HH.out.1 HH.out.2.1).mono ?_
 rintro _ w2 ⟨u,rfl,uA,uB,uS,hb⟩;have HI2:=hid (HI.out.kept hb);have HU:=hid (show u.At w2∧u.Blk (fun b=>b<D∨w.heap.size+3≤b)∧u.same (j.read nd nd.h.a)=true from ⟨uA,uB.mono (fun b h=>by have:=HI.out.sz;omega),uS⟩)
 clear HI c2 bJ bN hb uA uB uS;have hN:=zac w2 (.cells u.vs.toArray 38);have HB:=hid (show Mk w j nd (w2.alloc (.cells u.vs.toArray 38))∧Blk (w2.alloc (.cells u.vs.toArray 38)) w2.heap.size u.vs 38∧u.At (w2.alloc (.cells u.vs.toArray 38))∧w.heap.size+3≤w2.heap.size from ⟨HI2.out.kept hN,Blk.new w2 _ _,HU.out.1.kept hN,HI2.out.sz⟩);clear hN HI2;go_upto_region 2 with (refine zao rfl rfl 38 rfl (.tmp 5) (.tmp 10) rfl zTv (alloc_ty _) rfl u.vs.toArray (by kernel_rfl) (by kernel_rfl) rfl (by kernel_rfl) (by simpa using u.vs_one) ?_)
 generalize (w2.alloc (.cells u.vs.toArray 38))=w3 at *;generalize w2.heap.size=B at *;have x0:=HB.out.2.1.cell 0 (v:=.int .i64 u.k) rfl;have HK:=hid (zdn HU.out.2.2);cases hq:(u.k != 5)
 ·have HG:Hid (j.held nd=zai j.n j.g ((j.read nd nd.h.a).ps 0) (j.read nd nd.h.a).l):=by
   show _=_
   unfold Jd.held;rw[←HK.out,hq];rfl
  have HL:=hid (show 0<u.len from by
   have h1:(j.read nd nd.h.a).k=5:=by rw[←HK.out];simpa using hq
   have h2:=zfd (n:=j.n) (g:=j.g) (t:=j.f.slots.ps nd.h.a.toNat) (a:=nd.h.env) (k:=5) (by decide) h1;have h3:zan 5=1:=by decide
   have h4:=zdd HU.out.2.2;have h5:(u.len:Int)=1:=by rw[h4,←h3];exact h2
   omega)
  go_upto_region 4 with fail
  have x1:∀x:Gr w3,x.w.cell? ⟨B,1,none⟩=some (.int .i64 u.l):=fun x=>(HB.out.2.1.kept x.bl).cell 1 rfl;have x2:∀x:Gr w3,x.w.cell? ⟨B,2,none⟩=some (.slice u.ao u.len u.cap):=fun x=>(HB.out.2.1.kept x.bl).cell 2 rfl;have hC0:∀q,(∃x:Gr w3,q=x.w)→q.rangeAt w.heap.size 0 j.vs:=by rintro _ ⟨x,rfl⟩;exact (HB.out.1.J.kept x.bl).range
  have hC1:∀q,(∃x:Gr w3,q=x.w)→q.rangeAt u.b (u.o+0*5) (u.ps 0).vs:=by rintro _ ⟨x,rfl⟩;exact C5.row ((HB.out.2.2.1.kept x.bl).cells HL.out)
  rw[HB.out.2.2.1.nil (Nat.lt_of_le_of_lt (Nat.zero_le _) HL.out)] at x2;have hNE:Nonempty (Gr w3):=⟨⟨_,Below.refl _ _⟩⟩;have hlt:((0:Nat):Int)<u.len:=by have:=HL.out;omega
  clear x0 hq;refine zah 7 (by kernel_rfl) (by kernel_rfl) ?_;simp only[List.take,List.drop];go_big_quiet_want;refine zaa 48 (.tmp 2) rfl _ 0 (by kernel_rfl) j.vs _ hC0 Tryz.underlying48 rfl (by kernel_rfl) ?_;simp only[Act.put,zA,zB,zC];go_big_quiet_on;iterate 3 go_big_quiet_step (fail)
  go_big_quiet_want;refine zaa 38 (.tmp 18) rfl u.b (u.o+0*5) (by kernel_rfl) (u.ps 0).vs _ hC1 Tryz.underlying38 rfl (by kernel_rfl) ?_;simp only[Act.put,zA,zB,zC];go_big_quiet_on;iterate 2 go_big_quiet_step (fail)
  refine wpQuiet_nil ?_;rintro w4 ⟨x4,rfl⟩;have B5:=x4.bl;generalize x4.w=w4 at B5 ⊢;have hR:=zdh D j (u.ps 0) u.l w4 (HB.out.1.hj.n.kept B5) (HB.out.1.hj.g.kept B5) ((HB.out.2.2.1.kept B5).part HL.out) (by have h1:=HB.out.1.sz;have h2:=B5.size;have h3:=HH.out.2.2;omega)
  have HS:=hid (show (zai j.n j.g (u.ps 0) u.l).same (j.held nd)=true from by
   rw[HG.out,zee HU.out.2.2];exact zch (ze7 HU.out.1.nd HL.out) (ze7 HR.out (by rw[←zdd HU.out.2.2];exact HL.out)) (zgz HU.out.2.2 HL.out))
  clear x4 x1 x2 hNE hC0 hC1 hlt;go_wp2_with fail
  refine hR.mono ?_;rintro _ w5 ⟨v,rfl,vA,vB,vS,hb1⟩;have HI5:=hid ((HB.out.1.kept B5).kept hb1);have HV:Hid (v.At w5∧v.same (j.held nd)=true∧v.Blk (fun b=>b<D∨w.heap.size+3≤b)):=⟨vA,zb4 _ _ _ vS HS.out,vB.mono (fun b h=>by have h1:=HB.out.1.sz;have h2:=B5.size;omega)⟩
  have bZ:=HI5.out.Z;have hD:=HH.out.2.2;clear hR vA vB vS hb1 B5 HB HU;go_wp2_with (refine zae rfl rfl 38 (.tmp 4) (.tmp 22) rfl (w.heap.size+2) v.vs (by kernel_rfl) (by kernel_rfl) v.vs_one bZ rfl (by kernel_rfl) ?_;intro w6 W2);have z0:=W2.blk.cell 0 (v:=.int .i64 v.k) rfl;have z1:=W2.blk.cell 1 (v:=.int .i64 v.l) rfl;have z2:=W2.blk.cell 2 (v:=.slice v.ao v.len v.cap) rfl;have z3:=W2.blk.cell 3 (v:=.int .i64 v.h) rfl;have z4:=W2.blk.cell 4 (v:=.int .i64 v.e) rfl;exact bodyPost_ret (v:=.agg v.vs.toArray) (by simp[results,Tryz.results122,go_sem,z0,z1,z2,z3,z4,Ty.vs]) rfl ⟨v,rfl,HV.out.1.wrote HV.out.2.2 W2 (by omega) (by omega),HV.out.2.2.mono (fun b h=>by omega),HV.out.2.1,W2.below (by omega) HI5.out.bl⟩
 ·have HG:Hid (j.held nd=leafT 0 0):=by
   show _=_
   unfold Jd.held;rw[←HK.out,hq];rfl
  have bZ:=HB.out.1.Z;go_wp2_with (refine zae rfl rfl 38 (.tmp 4) (.tmp 14) rfl (w.heap.size+2) (leafT 0 0).vs (by kernel_rfl) (by kernel_rfl) rfl bZ rfl (by kernel_rfl) ?_;intro w6 W2);have z0:=W2.blk.cell 0 (v:=.int .i64 0) rfl;have z1:=W2.blk.cell 1 (v:=.int .i64 0) rfl;have z2:=W2.blk.cell 2 (v:=.slice none 0 0) rfl;have z3:=W2.blk.cell 3 (v:=.int .i64 0) rfl;have z4:=W2.blk.cell 4 (v:=.int .i64 0) rfl;exact bodyPost_ret (v:=.agg (leafT 0 0).vs.toArray) (by simp[results,Tryz.results122,go_sem,z0,z1,z2,z3,z4,Ty.vs,leafT,Ty.k,Ty.l,Ty.ao,Ty.len,Ty.cap,Ty.h,Ty.e]) rfl ⟨leafT 0 0,rfl,zay _ _ _,zdz _ _ _,by rw[HG.out];exact same_refl _,W2.below (by omega) HB.out.1.bl⟩
theorem zus (s:Ty):Instr.fill (fun i=>some (i*5,5)) (Array.map (fun x=>zTv[x % zTv.length]?.getD default) (Array.range 5)) [(0,Value.agg s.vs.toArray)]=some s.vs.toArray:=by kernel_rfl
theorem zel (s:Ty)(w:World):(Instr.buildSlice 36 1 #[(0,.agg s.vs.toArray)]).run Tryz.prog w=.ok (.slice (some ⟨w.heap.size,0,none⟩) 1 1) (w.alloc (.cells s.vs.toArray 38)):=by
 obtain⟨i0,hi,hz0,hz1,hz2⟩:=info_parts Tryz.infoTyI;simp[Instr.buildSlice,run_underlying Tryz.underlying36,sizeOf,typeInfo,hi,hz0,hz1,zeroValue,newRow,Value.cells,zus]
def mkA (k l:Int)(B:Nat)(p:Ty):Ty:=.mk k l 0 0 (some ⟨B,0,none⟩) B 0 1 1 (fun _=>p)
theorem ztu {w:World}{k l:Int}{B:Nat}{p:Ty}(hp:p.At w)(hb:Blk w B p.vs 38):(mkA k l B p).At w:=by
 refine⟨fun _=>rfl,by decide,fun i hi=>?_⟩
 match i,hi with
 | 0,_=>exact⟨zga hb.range,hp⟩
theorem znq {k l:Int}{B:Nat}{p:Ty}:(mkA k l B p).same (mk1 k l p)=true:=by
 rw[zbb];exact⟨⟨rfl,rfl,rfl,rfl,rfl⟩,fun i _=>same_refl _⟩
theorem zx5 {k l:Int}{B:Nat}{p:Ty}{Q:Nat→Prop}(hB:Q B)(hp:p.Blk Q):(mkA k l B p).Blk Q:=⟨fun _=>hB,fun _ _=>hp⟩
theorem zwg (D:Nat)(j:Jd)(nd:Nd)(w:World)(hj:j.At w)(hD:D≤w.heap.size)(ha:0≤nd.h.a)(ha1:nd.h.a<j.f.slots.len)(hT:nd.h.t.At w)(hTB:nd.h.t.Blk (fun b=>b<D)) :
  Calls Tryz.prog 121 #[.agg j.va,.agg nd.va] w (zbh D (j.cell nd) w):=by
 have HI:=hid (zb5 w j nd hj);have HH:=hid (show 0≤nd.h.a∧nd.h.a<j.f.slots.len∧D≤w.heap.size∧nd.h.t.At w∧nd.h.t.Blk (fun b=>b<D) from ⟨ha,ha1,hD,hT,hTB⟩);have HR:=hid (ze2 (nd:=nd) hj ha ha1);unfold mkW at HI;clear hj ha ha1 hD hT hTB;go_enter Tryz.func121,Tryz.ntmps121
 go_upto_region 1 with fail
 generalize (((w.alloc (.cells j.va 48)).alloc (.cells nd.va 65)).alloc (.cells #[.int .i64 0,.int .i64 0,.slice none 0 0,.int .i64 0,.int .i64 0] 38))=w1 at *;have hC0:∀q,(∃x:Wd (fun q=>Below w1.heap.size w1 q),q=x.w)→q.rangeAt w.heap.size 0 j.vs:=by rintro _ ⟨x,rfl⟩;exact (HI.out.J.kept x.2).range
 have hC1:∀q,(∃x:Wd (fun q=>Below w1.heap.size w1 q),q=x.w)→q.rangeAt (w.heap.size+1) 0 nd.vs:=by rintro _ ⟨x,rfl⟩;exact (HI.out.N.kept x.2).range
 have hCT:∀q,(∃x:Wd (fun q=>Below w1.heap.size w1 q),q=x.w)→q.rangeAt (w.heap.size+1) 6 nd.h.t.vs:=by rintro _ ⟨x,rfl⟩;exact zbm (HI.out.N.kept x.2) 6 rfl rfl rfl rfl rfl
 have p0:∀x:Wd (fun q=>Below w1.heap.size w1 q),x.w.cell? ⟨w.heap.size,0,none⟩=some (.slice j.n.ao j.n.len j.n.cap):=fun x=>(HI.out.J.kept x.2).cell 0 rfl;have p1:∀x:Wd (fun q=>Below w1.heap.size w1 q),x.w.cell? ⟨w.heap.size,1,none⟩=some (.slice j.g.ao j.g.len j.g.cap):=fun x=>(HI.out.J.kept x.2).cell 1 rfl;have p2:∀x:Wd (fun q=>Below w1.heap.size w1 q),x.w.cell? ⟨w.heap.size+1,2,none⟩=some (.int .i64 nd.h.a):=fun x=>(HI.out.N.kept x.2).cell 2 rfl;have hNE:Nonempty (Wd (fun q=>Below w1.heap.size w1 q)):=⟨⟨_,Below.refl _ _⟩⟩;refine zal (fun q=>Below w1.heap.size w1 q) [0,1,2,3,4,5,7,8] 3 (by kernel_rfl) rfl (by kernel_rfl) (zbt (by kernel_rfl)) ((Below.refl _ _).drew) ?_;simp only[List.filterMap,zD,zE];iterate 2 go_big_quiet_step (fail)
 go_big_quiet_want;refine zaa 48 (.tmp 2) rfl _ 0 (by kernel_rfl) j.vs _ hC0 Tryz.underlying48 rfl (by kernel_rfl) ?_;simp only[Act.put,zA,zB,zC];go_big_quiet_on;go_big_quiet_want;refine zaa 65 (.tmp 3) rfl _ 0 (by kernel_rfl) nd.vs _ hC1 Tryz.underlying65 rfl (by kernel_rfl) ?_;simp only[Act.put,zA,zB,zC];go_big_quiet_on;iterate 3 go_big_quiet_step (fail)
 go_big_quiet_want;refine zaa 38 (.tmp 12) rfl _ 6 (by kernel_rfl) nd.h.t.vs _ hCT Tryz.underlying38 rfl (by kernel_rfl) ?_;simp only[Act.put,zA,zB,zC];go_big_quiet_on;refine wpQuiet_nil ?_;clear hC0 hC1 hCT p0 p1 p2 hNE;have HV0:=hid (show Below w1.heap.size w1 w1.drew from (Below.refl _ _).drew);generalize w1.drew=v0 at *;refine wpAnyH_ready (rs:=[6]) (by kernel_rfl) (by simp) ?_;refine AllReadyH.cons rfl (fun K hK=>?_) AllReadyH.nil;rw[if_pos (by rfl)];go_simp;refine (zbk D j nd nd.h.a v0 (HI.out.hj.kept HV0.out) (by have h1:=HI.out.bl.size;have h2:=HH.out.2.2.1;have h3:=HV0.out.size;omega) HH.out.1 HH.out.2.1).mono ?_
 rintro _ v1 ⟨u,rfl,uA,uB,uS,hb9⟩;have HV1:=hid (Below.next HV0.out hb9);have HU:=hid (show u.At v1∧u.same (j.read nd nd.h.a)=true from ⟨uA,uS⟩);refine hK.out _ _ HV1.out (fun _=>?_);clear hK K hb9 uA uB uS HV0;refine wpAnyH_ready (rs:=[9]) (by kernel_rfl) (by simp) ?_;refine AllReadyH.cons rfl (fun K hK=>?_) AllReadyH.nil;rw[if_pos (by rfl)];go_simp;refine (zdi j.n j.g u nd.h.t v1 (HI.out.hj.n.kept HV1.out) (HI.out.hj.g.kept HV1.out) HU.out.1 ((HH.out.2.2.2.1.kept HI.out.bl).kept HV1.out)).mono ?_;rintro _ v2 ⟨rfl,hb9⟩;have HV2:=hid (Below.next HV1.out hb9);refine hK.out _ _ HV2.out (fun _=>?_);have HG:Hid (j.cell nd=if belB j.n j.g u nd.h.t=true then mk1 5 j.bot nd.h.t else leafT 0 0):=by
  show _=_
  unfold Jd.cell;rw[zck (t:=nd.h.t) HU.out.1.nd HR.out HU.out.2]
 clear hK K hb9 HV1 HU;generalize belB j.n j.g u nd.h.t=bb at *;refine wpAnyH_ready (rs:=[10]) (by kernel_rfl) (by simp) ?_;refine AllReadyH.cons rfl (fun K hK=>?_) AllReadyH.nil;rw[if_pos (by rfl)];go_simp;refine hK.out _ _ HV2.out (fun _=>?_);clear hK K;refine wpAnyH_done (by kernel_rfl) ?_ _;refine⟨(fun c hc=>by cases hc),?_⟩;have HJ:=hid (HI.out.kept HV2.out);clear HI HV2;cases bb
 ·have bZ:=HJ.out.Z;go_wp2_with (refine zae rfl rfl 38 (.tmp 4) (.tmp 16) rfl (w.heap.size+2) (leafT 0 0).vs (by kernel_rfl) (by kernel_rfl) rfl bZ rfl (by kernel_rfl) ?_;intro w6 W2);have z0:=W2.blk.cell 0 (v:=.int .i64 0) rfl;have z1:=W2.blk.cell 1 (v:=.int .i64 0) rfl;have z2:=W2.blk.cell 2 (v:=.slice none 0 0) rfl;have z3:=W2.blk.cell 3 (v:=.int .i64 0) rfl;have z4:=W2.blk.cell 4 (v:=.int .i64 0) rfl;exact bodyPost_ret (v:=.agg (leafT 0 0).vs.toArray) (by simp[results,Tryz.results121,go_sem,z0,z1,z2,z3,z4,Ty.vs,leafT,Ty.k,Ty.l,Ty.ao,Ty.len,Ty.cap,Ty.h,Ty.e]) rfl ⟨leafT 0 0,rfl,zay _ _ _,zdz _ _ _,by rw[HG.out];exact same_refl _,W2.below (by omega) HJ.out.bl⟩
 ·have c2:=HJ.out.J.cell 2 (v:=.int .i64 j.bot) rfl;have rT:v2.rangeAt (w.heap.size+1) 6 nd.h.t.vs:=zbm HJ.out.N 6 rfl rfl rfl rfl rfl;have hsl:=zel nd.h.t v2;have hb:=zac v2 (.cells nd.h.t.vs.toArray 38);have HB:=hid (show Mk w j nd (v2.alloc (.cells nd.h.t.vs.toArray 38))∧Blk (v2.alloc (.cells nd.h.t.vs.toArray 38)) v2.heap.size nd.h.t.vs 38∧w.heap.size+3≤v2.heap.size from ⟨HJ.out.kept hb,Blk.new v2 _ _,HJ.out.sz⟩);have bZ:=HB.out.1.Z;clear hb HJ;go_wp2_with (first | (refine wpList_load_mid rfl 38 (.tmp 19) rfl (w.heap.size+1) 6 (by kernel_rfl) nd.h.t.vs _ rT Tryz.underlying38 rfl (by kernel_rfl) ?_) | (refine zd4 rfl 36 1 #[(0,.tmp 20)] rfl #[(0,.agg nd.h.t.vs.toArray)] (by kernel_rfl) hsl ?_) | (refine zae rfl rfl 38 (.tmp 4) (.tmp 22) rfl (w.heap.size+2) (mkA 5 j.bot v2.heap.size nd.h.t).vs (by kernel_rfl) (by kernel_rfl) rfl bZ rfl (by kernel_rfl) ?_;intro w6 W2));have z0:=W2.blk.cell 0 (v:=.int .i64 5) rfl;have z1:=W2.blk.cell 1 (v:=.int .i64 j.bot) rfl;have z2:=W2.blk.cell 2 (v:=.slice (some ⟨v2.heap.size,0,none⟩) 1 1) rfl;have z3:=W2.blk.cell 3 (v:=.int .i64 0) rfl;have z4:=W2.blk.cell 4 (v:=.int .i64 0) rfl;have hb6:=W2.below (B0:=w.heap.size) (by omega) HB.out.1.bl;refine bodyPost_ret (v:=.agg (mkA 5 j.bot v2.heap.size nd.h.t).vs.toArray) (by simp[results,Tryz.results121,go_sem,z0,z1,z2,z3,z4,Ty.vs,mkA,Ty.k,Ty.l,Ty.ao,Ty.len,Ty.cap,Ty.h,Ty.e]) rfl ⟨mkA 5 j.bot v2.heap.size nd.h.t,rfl,?_,?_,?_,hb6⟩
  ·exact ztu (HH.out.2.2.2.1.kept hb6) (W2.keep HB.out.2.1 (by have:=HB.out.2.2;omega))
  ·exact zx5 (by have:=HB.out.2.2;omega) (HH.out.2.2.2.2.mono (fun b h=>Or.inl h))
  ·rw[HG.out];exact znq
end
end Go.Proofs.YtgioppfoceddfaaGreat
