import Derived.Test.YtgioppfoceddfaaGreatP39
import Derived.Test.YtgioppfoceddfaaGreatP29
import Derived.Test.YtgioppfoceddfaaGreatP28
set_option maxRecDepth 100000
set_option maxHeartbeats 32000000
namespace Go.Proofs.YtgioppfoceddfaaGreat
section
open Go Go.RowKit
theorem zr8 (j:Jd)(nd:Nd)(s:Sta)(w:World)(hj:j.At w)(hn:nd.At w)(hop:nd.h.op=16)(o:Option Sta)(hc:∀u,Below w.heap.size w u→Calls Tryz.prog 87 #[.agg j.vs.toArray,.agg nd.vs.toArray,.agg s.vs.toArray] u (zhc o u)):zcp o j nd s w:=by
 unfold zcp;have HI:=hid (zfl w j nd s hj hn);have c0:=HI.out.N.cell 0 (v:=.int .i64 nd.h.op) rfl;rw[hop] at c0;unfold nwW at HI c0;have HP:=hid hc;clear hop hj hn hc;go_enter Tryz.func56,Tryz.ntmps56
 go_upto_region 1 with (refine zbd rfl rfl ?_)
 generalize ((((w.alloc (.cells j.va 48)).alloc (.cells nd.va 65)).alloc (.cells s.va 71)).alloc (.cells Sta.zero.va 71))=w1 at *;have bJ:=HI.out.J;have bN:=HI.out.N;have bS:=HI.out.S;go_wp2_with (first | (refine wpList_load_mid rfl 48 (.tmp 3) rfl w.heap.size 0 (by kernel_rfl) j.vs _ bJ.range Tryz.underlying48 rfl (by kernel_rfl) ?_) | (refine wpList_load_mid rfl 65 (.tmp 4) rfl (w.heap.size+1) 0 (by kernel_rfl) nd.vs _ bN.range Tryz.underlying65 rfl (by kernel_rfl) ?_) | (refine wpList_load_mid rfl 71 (.tmp 5) rfl (w.heap.size+2) 0 (by kernel_rfl) s.vs _ bS.range Tryz.underlying71 rfl (by rw[Sta.len];kernel_rfl) ?_))
 refine (HP.out w1 HI.out.bl).mono ?_;rintro _ w2 ⟨y,ok,rfl,hok,hy,hb⟩;have HY:=hid (show ok=o.isSome∧∀s1,o=some s1→y=s1 from ⟨hok,hy⟩);have HC:=hid (HI.out.kept hb);have bZ:=HC.out.Z;clear HI bJ bN bS c0 HP hb hok hy;go_wp2_with (refine zae rfl rfl 71 (.tmp 6) (.tmp 31) rfl (w.heap.size+3) y.vs (by kernel_rfl) (by kernel_rfl) (Sta.va_one _) bZ (by rw[Sta.len,Sta.len]) (by simp only[List.size_toArray,Sta.len];kernel_rfl) ?_;intro w5 W);exact bodyPost_ret (v:=.tuple #[.agg y.vs.toArray,.bool ok]) (za1 Tryz.results56 rfl rfl W.blk.range) rfl ⟨y,ok,rfl,HY.out.1,HY.out.2,W.below (by omega) HC.out.bl⟩
theorem ztp (j:Jd)(nd:Nd)(s:Sta)(w:World)(hj:j.At w)(hn:nd.At w)(hop:nd.h.op=17)(o:Option Sta)(hc:∀u,Below w.heap.size w u→Calls Tryz.prog 88 #[.agg j.vs.toArray,.agg nd.vs.toArray,.agg s.vs.toArray] u (zhc o u)):zcp o j nd s w:=by
 unfold zcp;have HI:=hid (zfl w j nd s hj hn);have c0:=HI.out.N.cell 0 (v:=.int .i64 nd.h.op) rfl;rw[hop] at c0;unfold nwW at HI c0;have HP:=hid hc;clear hop hj hn hc;go_enter Tryz.func56,Tryz.ntmps56
 go_upto_region 1 with (refine zbd rfl rfl ?_)
 generalize ((((w.alloc (.cells j.va 48)).alloc (.cells nd.va 65)).alloc (.cells s.va 71)).alloc (.cells Sta.zero.va 71))=w1 at *;have bJ:=HI.out.J;have bN:=HI.out.N;have bS:=HI.out.S;go_wp2_with (first | (refine wpList_load_mid rfl 48 (.tmp 3) rfl w.heap.size 0 (by kernel_rfl) j.vs _ bJ.range Tryz.underlying48 rfl (by kernel_rfl) ?_) | (refine wpList_load_mid rfl 65 (.tmp 4) rfl (w.heap.size+1) 0 (by kernel_rfl) nd.vs _ bN.range Tryz.underlying65 rfl (by kernel_rfl) ?_) | (refine wpList_load_mid rfl 71 (.tmp 5) rfl (w.heap.size+2) 0 (by kernel_rfl) s.vs _ bS.range Tryz.underlying71 rfl (by rw[Sta.len];kernel_rfl) ?_))
 refine (HP.out w1 HI.out.bl).mono ?_;rintro _ w2 ⟨y,ok,rfl,hok,hy,hb⟩;have HY:=hid (show ok=o.isSome∧∀s1,o=some s1→y=s1 from ⟨hok,hy⟩);have HC:=hid (HI.out.kept hb);have bZ:=HC.out.Z;clear HI bJ bN bS c0 HP hb hok hy;go_wp2_with (refine zae rfl rfl 71 (.tmp 6) (.tmp 39) rfl (w.heap.size+3) y.vs (by kernel_rfl) (by kernel_rfl) (Sta.va_one _) bZ (by rw[Sta.len,Sta.len]) (by simp only[List.size_toArray,Sta.len];kernel_rfl) ?_;intro w5 W);exact bodyPost_ret (v:=.tuple #[.agg y.vs.toArray,.bool ok]) (za1 Tryz.results56 rfl rfl W.blk.range) rfl ⟨y,ok,rfl,HY.out.1,HY.out.2,W.below (by omega) HC.out.bl⟩
def raO (j:Jd)(nd:Nd)(s:Sta):Option Sta:=if (j.read nd nd.h.a).k=1 then some { s with x:=zad j.n j.g s.x (j.read nd nd.h.a).l,gone:=true } else none
theorem Sta.put252 (s:Sta)(v:Bool):s.vs.set 252 (.bool v)=({ s with gone:=v }:Sta).vs:=by
 rw[Sta.vs_set];show Value.int .i64 s.at_ :: Value.int .i64 s.x :: ((setV s.set++[Value.bool s.gone]).set 250 (Value.bool v))=_
 rw[List.set_append_right _ _ (by rw[zba];exact Nat.le_refl _),zba]
 rfl
theorem zsq (j:Jd)(nd:Nd)(s:Sta)(w:World)(hj:j.At w)(hn:nd.At w)(hop:nd.h.op=18)(ha:0≤nd.h.a)(ha1:nd.h.a<j.f.slots.len):zcp (raO j nd s) j nd s w:=by
 unfold zcp;have HI:=hid (zfl w j nd s hj hn);have c0:=HI.out.N.cell 0 (v:=.int .i64 nd.h.op) rfl;have c2:=HI.out.N.cell 2 (v:=.int .i64 nd.h.a) rfl;rw[hop] at c0;unfold nwW at HI c0 c2;have HH:=hid (show 0≤nd.h.a∧nd.h.a<j.f.slots.len from ⟨ha,ha1⟩);have HJ:=hid (show j.At w∧nd.At w from ⟨hj,hn⟩);clear hop hj hn ha ha1;go_enter Tryz.func56,Tryz.ntmps56
 go_upto_region 1 with (refine zbd rfl rfl ?_)
 generalize ((((w.alloc (.cells j.va 48)).alloc (.cells nd.va 65)).alloc (.cells s.va 71)).alloc (.cells Sta.zero.va 71))=w1 at *;have bJ:=HI.out.J;have bN:=HI.out.N;go_wp2_with (first | (refine wpList_load_mid rfl 48 (.tmp 3) rfl w.heap.size 0 (by kernel_rfl) j.vs _ bJ.range Tryz.underlying48 rfl (by kernel_rfl) ?_) | (refine wpList_load_mid rfl 65 (.tmp 4) rfl (w.heap.size+1) 0 (by kernel_rfl) nd.vs _ bN.range Tryz.underlying65 rfl (by kernel_rfl) ?_))
 refine (zbk 0 j nd nd.h.a w1 HI.out.hj (by omega) HH.out.1 HH.out.2).mono ?_;rintro _ w2 ⟨u,rfl,uA,uB,uS,hb⟩;have HI2:=hid (HI.out.kept hb);have HE:Hid (raO j nd s=if u.k=1 then some { s with x:=zad j.n j.g s.x u.l,gone:=true } else none):=by show _=_;unfold raO;rw[←zdn uS,←zee uS]
 clear HI c0 c2 bJ bN hb uA uB uS;have hN:=zac w2 (.cells u.vs.toArray 38);have HB:=hid (show Nw w j nd s Sta.zero (w2.alloc (.cells u.vs.toArray 38))∧Blk (w2.alloc (.cells u.vs.toArray 38)) w2.heap.size u.vs 38∧w.heap.size+4≤w2.heap.size from ⟨HI2.out.kept hN,Blk.new w2 _ _,HI2.out.sz⟩);clear hN HI2;go_upto_region 12 with (refine zao rfl rfl 38 rfl (.tmp 8) (.tmp 47) rfl zTv (alloc_ty _) rfl u.vs.toArray (by kernel_rfl) (by kernel_rfl) rfl (by kernel_rfl) (by simpa using u.vs_one) ?_)
 generalize (w2.alloc (.cells u.vs.toArray 38))=w3 at *;generalize w2.heap.size=B8 at *;have x1:=HB.out.2.1.cell 1 (v:=.int .i64 u.l) rfl;have s1:=HB.out.1.S.cell 1 s.v1;have bJ:=HB.out.1.J;go_wp2_with (refine wpList_load_mid rfl 48 (.tmp 3) rfl w.heap.size 0 (by kernel_rfl) j.vs _ bJ.range Tryz.underlying48 rfl (by kernel_rfl) ?_)
 refine (zbz j s.x u.l w3 HB.out.1.hj.n HB.out.1.hj.g).mono ?_;rintro _ w4 ⟨rfl,hb4⟩;have HC:=hid (show Nw w j nd s Sta.zero w4∧Blk w4 B8 u.vs 38∧w.heap.size+4≤B8 from ⟨HB.out.1.kept hb4,HB.out.2.1.kept hb4,HB.out.2.2⟩);clear x1 s1 bJ hb4 HB;generalize zad j.n j.g s.x u.l=bx at *;have s1:=HC.out.1.S.cell 1 s.v1;have g1:=HC.out.1.S.frozen 1;have s252:=HC.out.1.S.cell 252 s.v252;have g252:=HC.out.1.S.frozen 252;have W1:=zbo (i:=1) HC.out.1.S (.int .i64 bx);rw[s.put1] at W1;have W2:=zbo (i:=252) W1.blk (.bool true);rw[Sta.put252] at W2;have HD:=hid (show Nw w j nd ⟨s.at_,bx,s.set,true⟩ Sta.zero _∧Blk _ B8 u.vs 38 from ⟨(HC.out.1.wroteS HJ.out.1 HJ.out.2 W1).wroteS HJ.out.1 HJ.out.2 W2,W2.keep (W1.keep HC.out.2.1 (by have:=HC.out.2.2;omega)) (by have:=HC.out.2.2;omega)⟩)
 clear W1 W2;go_upto_region 13 with fail
 clear s1 g1 s252 g252;generalize ((w4.setCell ⟨w.heap.size+2,1,none⟩ (.int .i64 bx)).setCell ⟨w.heap.size+2,252,none⟩ (.bool true))=w5 at *;have HP8:=hid HC.out.2.2;clear HC;have hS:∀q,(∃x:Wd (fun q:World=>Below w.heap.size w q∧Blk q (w.heap.size+2) (⟨s.at_,bx,s.set,true⟩:Sta).vs 71∧Blk q B8 u.vs 38),q=x.w)→Below w.heap.size w q∧Blk q (w.heap.size+2) (⟨s.at_,bx,s.set,true⟩:Sta).vs 71∧Blk q B8 u.vs 38:=by rintro _ ⟨x,rfl⟩;exact x.2
 have p0:∀x:Wd (fun q:World=>Below w.heap.size w q∧Blk q (w.heap.size+2) (⟨s.at_,bx,s.set,true⟩:Sta).vs 71∧Blk q B8 u.vs 38),x.w.cell? ⟨B8,0,none⟩=some (.int .i64 u.k):=fun x=>x.2.2.2.cell 0 rfl;have hdb:=(Below.refl w5.heap.size w5).drew;have HV0:=hid (show Nw w j nd ⟨s.at_,bx,s.set,true⟩ Sta.zero w5.drew∧Blk w5.drew B8 u.vs 38 from ⟨HD.out.1.kept hdb,HD.out.2.kept hdb⟩);clear hdb HD;have hNE:Nonempty (Wd (fun q:World=>Below w.heap.size w q∧Blk q (w.heap.size+2) (⟨s.at_,bx,s.set,true⟩:Sta).vs 71∧Blk q B8 u.vs 38)):=⟨⟨_,HV0.out.1.bl,HV0.out.1.S,HV0.out.2⟩⟩;refine zal (fun q:World=>Below w.heap.size w q∧Blk q (w.heap.size+2) (⟨s.at_,bx,s.set,true⟩:Sta).vs 71∧Blk q B8 u.vs 38) [0,1,2] 3 (by kernel_rfl) rfl (by kernel_rfl) (zbt (by kernel_rfl)) ⟨HV0.out.1.bl,HV0.out.1.S,HV0.out.2⟩ ?_;simp only[List.filterMap,zD,zE];generalize w5.drew=v0 at *;go_big_quiet_want;refine zaa 71 (.tmp 5) rfl _ 0 (by kernel_rfl) (⟨s.at_,bx,s.set,true⟩:Sta).vs _ (fun q hq=>(hS q hq).2.1.range) Tryz.underlying71 rfl (by rw[Sta.len];kernel_rfl) ?_
 simp only[Act.put,zA,zB,zC];go_big_quiet_on;iterate 2 go_big_quiet_step (fail)
 refine wpQuiet_nil ?_;clear hS p0 hNE;have HR:Hid ((u.k==1)=(raO j nd s).isSome∧∀s1,raO j nd s=some s1→(⟨s.at_,bx,s.set,true⟩:Sta)=s1):=by
  show _∧_
  rw[HE.out];by_cases hq:u.k=1
  ·rw[if_pos hq,hq];exact⟨rfl,fun s1 h=>Option.some.inj h⟩
  ·rw[if_neg hq];exact⟨beq_eq_false_iff_ne.2 hq,fun _ h=>by cases h⟩
 generalize (⟨s.at_,bx,s.set,true⟩:Sta)=sr at *;generalize hkk:(u.k==1)=kk at *;refine wpAnyH_ready (rs:=[3,4]) (by kernel_rfl) (by simp) ?_;refine AllReadyH.cons rfl (fun K hK=>?_) (AllReadyH.cons rfl (fun K hK=>?_) AllReadyH.nil)
 ·rw[if_pos (by rfl)];go_simp;refine hK.out _ _ ⟨HV0.out.1.bl,HV0.out.1.S,HV0.out.2⟩ (fun _=>?_);clear hK K;refine wpAnyH_ready (rs:=[4]) (by kernel_rfl) (by simp) ?_;refine AllReadyH.cons rfl (fun K hK=>?_) AllReadyH.nil;rw[if_pos (by rfl)];refine zak 71 (.tmp 6) (.tmp 56) rfl rfl (w.heap.size+3) sr.vs Sta.zero.vs (by kernel_rfl) (by kernel_rfl) (Sta.va_one _) HV0.out.1.Z (by rw[Sta.len,Sta.len]) (by simp only[List.size_toArray,Sta.len];kernel_rfl) ?_
  intro w8 W8;have HV3:=hid (show Below w.heap.size w w8∧Blk w8 (w.heap.size+2) sr.vs 71∧Blk w8 B8 u.vs 38 from ⟨W8.below (by omega) HV0.out.1.bl,W8.keep HV0.out.1.S (by omega),W8.keep HV0.out.2 (by have:=HP8.out;omega)⟩)
  refine hK.out _ _ HV3.out (fun _=>?_);clear hK K;refine wpAnyH_ready (rs:=[5]) (by kernel_rfl) (by simp) ?_;refine AllReadyH.cons rfl (fun K hK=>?_) AllReadyH.nil;rw[if_pos (by rfl)];go_simp;refine hK.out _ _ HV3.out (fun _=>?_);clear hK K;refine wpAnyH_done (by kernel_rfl) ?_ _;refine⟨(fun c hc=>by cases hc),?_⟩;go_wp2;exact bodyPost_ret (v:=.tuple #[.agg sr.vs.toArray,.bool kk]) (za1 Tryz.results56 rfl rfl W8.blk.range) rfl ⟨_,_,rfl,HR.out.1,HR.out.2,HV3.out.1⟩
 ·rw[if_pos (by rfl)];refine zak 71 (.tmp 6) (.tmp 56) rfl rfl (w.heap.size+3) sr.vs Sta.zero.vs (by kernel_rfl) (by kernel_rfl) (Sta.va_one _) HV0.out.1.Z (by rw[Sta.len,Sta.len]) (by simp only[List.size_toArray,Sta.len];kernel_rfl) ?_
  intro w8 W8;have HV3:=hid (show Below w.heap.size w w8∧Blk w8 (w.heap.size+2) sr.vs 71∧Blk w8 B8 u.vs 38 from ⟨W8.below (by omega) HV0.out.1.bl,W8.keep HV0.out.1.S (by omega),W8.keep HV0.out.2 (by have:=HP8.out;omega)⟩)
  refine hK.out _ _ HV3.out (fun _=>?_);clear hK K;refine wpAnyH_ready (rs:=[3]) (by kernel_rfl) (by simp) ?_;refine AllReadyH.cons rfl (fun K hK=>?_) AllReadyH.nil;rw[if_pos (by rfl)];go_simp;refine hK.out _ _ HV3.out (fun _=>?_);clear hK K;refine wpAnyH_ready (rs:=[5]) (by kernel_rfl) (by simp) ?_;refine AllReadyH.cons rfl (fun K hK=>?_) AllReadyH.nil;rw[if_pos (by rfl)];go_simp;refine hK.out _ _ HV3.out (fun _=>?_);clear hK K;refine wpAnyH_done (by kernel_rfl) ?_ _;refine⟨(fun c hc=>by cases hc),?_⟩;go_wp2;exact bodyPost_ret (v:=.tuple #[.agg sr.vs.toArray,.bool kk]) (za1 Tryz.results56 rfl rfl W8.blk.range) rfl ⟨_,_,rfl,HR.out.1,HR.out.2,HV3.out.1⟩
def stpO (j:Jd)(nd:Nd)(s:Sta):Option Sta :=
 if nd.h.op=14 then (if j.sets nd=true then some s else none) else if nd.h.op=15 then (if j.tells nd=true then some s else none)
 else if nd.h.op=16 then chO j nd s else if nd.h.op=17 then atO j nd s else if nd.h.op=18 then raO j nd s else j.make nd s
theorem ziq {w:World}{j:Jd}:∀{nd:Nd} (_:nd.At w) (s:Sta),nd.run j s=if j.pre nd s=false then none else stpO j nd s
 | .dm,h,_=>h.elim
 | .mk h bao bb bo bl bc bp eao eb eo el ec ep,_,s=>by
  unfold Nd.run;rfl
theorem zja {w:World}{n:Strs}{g:Grid}{many:Int}{m:Nat}{nd:Nd}(hA:nd.At w)(h:nd.shp n g many m=true):needB n g many nd.h (nd.bd.shp n g many m) (nd.el.shp n g many m)=true:=by
 rw[Nd.shp_eq hA] at h;unfold shpB at h;simp only[Bool.and_eq_true] at h;exact h.2
theorem zlf {n:Strs}{g:Grid}{many:Int}{h:Hd}{x y:Bool}(hn:needB n g many h x y=true):1≤h.op∧h.op≤18:=by
 unfold needB at hn;split at hn
 ·omega
 split at hn
 ·omega
 split at hn
 ·omega
 split at hn
 ·omega
 split at hn
 ·omega
 split at hn
 ·omega
 simpa using hn
theorem zkf {n:Strs}{g:Grid}{many:Int}{h:Hd}{x y:Bool}(hn:needB n g many h x y=true)(ho:h.op=9):0≤h.n∧h.n<many:=by
 unfold needB at hn;rw[if_neg (by omega),if_neg (by omega),if_pos ho] at hn;unfold wthB at hn
 simpa using hn
theorem zfe {n:Strs}{g:Grid}{many:Int}{h:Hd}{x y:Bool}(hn:needB n g many h x y=true)(ho:h.op=16∨h.op=17):x=true∧y=true:=by
 unfold needB at hn;rw[if_neg (by omega),if_neg (by omega),if_neg (by omega),if_neg (by omega),if_neg (by omega),if_pos ho] at hn
 simpa using hn
theorem zg2 {n:Strs}{g:Grid}{t:Ty}{a:Int}(k:Int)(hk:k≠0)(h:(zai n g t a).k=k)(hN:t.Nd){i:Nat}(hi:(i:Int)<zan k){b:Int}:(zai n g ((zai n g t a).ps i) b).Nd:=by
 have h1:=zfd (n:=n) (g:=g) (t:=t) (a:=a) hk h;exact zbf (ze7 (zbf hN) (by omega))
theorem zh2 {n:Strs}{g:Grid}{f:Fc}{w:World}(h:f.At w):(sigT n g f).Nd:=by
 unfold sigT;exact zbf (ziw h.param.nd h.result.nd)
theorem zwe {j:Jd}{nd:Nd}{w:World}(hj:j.At w)(hn:nd.At w)(hs1:slotsB j.f.slots.len nd.h.rds=true)(h9:nd.h.op=9→0≤nd.h.n∧nd.h.n<j.fns.len)(ho:1≤nd.h.op∧nd.h.op≤13):(j.makes nd).1.Nd:=by
 have ra:∀{i},i ∈ nd.h.rds→(j.f.slots.ps i.toNat).Nd:=fun {i} hi=>by
  have:=zbg hs1 hi;exact (hj.f.slots.part (i:=i.toNat) (by omega)).nd
 have R:∀r:Ty × Int,j.makes nd=r→r.1.Nd→(j.makes nd).1.Nd:=fun r h hr=>by rw[h];exact hr
 by_cases h1:nd.h.op=1
 ·exact R (leafT 1 j.bot,-1) (by unfold Jd.makes;rw[h1];rfl) (zcm _ _)
 by_cases h2:nd.h.op=2
 ·exact R (leafT 2 j.bot,-1) (by unfold Jd.makes;rw[h2];rfl) (zcm _ _)
 by_cases h3:nd.h.op=3
 ·exact R (j.read nd nd.h.a,-1) (by unfold Jd.makes;rw[h3];rfl) (zbf (ra (by rw[rds1 (by omega)];simp)))
 by_cases h4:nd.h.op=4
 ·refine R (j.reck nd) (by unfold Jd.makes;rw[h4];rfl) ?_
  unfold Jd.reck;by_cases hq:(((j.read nd nd.h.a).k != 1)||((j.read nd nd.h.b).k != 1))=true
  ·rw[if_pos hq];exact zcm _ _
  ·rw[if_neg hq];exact zcm _ _
 by_cases h5:nd.h.op=5
 ·refine R (zby 2 (j.read nd nd.h.a),-1) (by unfold Jd.makes;rw[h5];rfl) ?_
  show (zby 2 (j.read nd nd.h.a)).Nd
  unfold zby;by_cases hq:((j.read nd nd.h.a).k != 2)=true
  ·rw[if_pos hq];exact zcm _ _
  ·rw[if_neg hq];exact zbf (ra (by rw[rds1 (by omega)];simp))
 by_cases h6:nd.h.op=6
 ·exact R (mk2 3 j.bot 0 0 (j.read nd nd.h.a) (j.read nd nd.h.b),-1) (by unfold Jd.makes;rw[h6];rfl) (ziw (zbf (ra (by rw[rds2 (by omega)];simp))) (zbf (ra (by rw[rds2 (by omega)];simp))))
 have SD:∀i:Nat,(i:Int)<zan 3→nd.h.a ∈ nd.h.rds→(j.side nd i).Nd:=fun i hi ha=>by
  unfold Jd.side;by_cases hq:((j.read nd nd.h.a).k != 3)=true
  ·rw[if_pos hq];exact zcm _ _
  ·rw[if_neg hq];have h3:(j.read nd nd.h.a).k=3:=by simpa using hq
   exact zg2 3 (by decide) h3 (ra ha) hi
 by_cases h7:nd.h.op=7
 ·exact R (j.side nd 0,-1) (by unfold Jd.makes;rw[h7];rfl) (SD 0 (by decide) (by rw[rds1 (by omega)];simp))
 by_cases h8:nd.h.op=8
 ·exact R (j.side nd 1,-1) (by unfold Jd.makes;rw[h8];rfl) (SD 1 (by decide) (by rw[rds1 (by omega)];simp))
 by_cases h9':nd.h.op=9
 ·refine R (j.closed nd,-1) (by unfold Jd.makes;rw[h9'];rfl) ?_
  show (j.closed nd).Nd
  have:=h9 h9';have hN:=zh2 (n:=j.n) (g:=j.g) (hj.fns.part nd.h.n.toNat (by omega));unfold Jd.closed;by_cases hq:nd.h.ar.len=(j.fns.ps nd.h.n.toNat).caps.len∧∀i,i<nd.h.ar.len→belB j.n j.g (j.read nd (nd.h.ar.f i)) ((j.fns.ps nd.h.n.toNat).caps.ps i)=true
  ·rw[if_pos hq];exact hN
  ·rw[if_neg hq];exact zcm _ _
 by_cases h10:nd.h.op=10
 ·exact R (sigT j.n j.g j.f,-1) (by unfold Jd.makes;rw[h10];rfl) (zh2 hj.f)
 by_cases h11:nd.h.op=11
 ·refine R (j.called nd) (by unfold Jd.makes;rw[h11];rfl) ?_
  unfold Jd.called;by_cases hq:((j.read nd nd.h.a).k != 4||!(belB j.n j.g (j.read nd nd.h.b) ((j.read nd nd.h.a).ps 0))||!(leqB j.n j.g (j.read nd nd.h.a).l (j.read nd nd.h.a).h&&leqB j.n j.g j.f.heap (j.read nd nd.h.a).h))=true
  ·rw[if_pos hq];exact zcm _ _
  ·rw[if_neg hq];have hq4:(j.read nd nd.h.a).k=4:=by
    cases h:((j.read nd nd.h.a).k != 4)
    ·simpa using h
    ·rw[h] at hq;exact absurd rfl hq
   exact zg2 4 (by decide) hq4 (ra (by rw[rds2 (by omega)];simp)) (by decide)
 by_cases h12:nd.h.op=12
 ·refine R (j.cell nd,-1) (by unfold Jd.makes;rw[h12];rfl) ?_
  show (j.cell nd).Nd
  unfold Jd.cell;by_cases hq:belB j.n j.g (j.read nd nd.h.a) nd.h.t=true
  ·rw[if_pos hq];intro i _;exact hn.t.nd
  ·rw[if_neg hq];exact zcm _ _
 have h13:nd.h.op=13:=by omega
 refine R (j.held nd,-1) (by unfold Jd.makes;rw[h13];rfl) ?_
 show (j.held nd).Nd
 unfold Jd.held;by_cases hq:((j.read nd nd.h.a).k != 5)=true
 ·rw[if_pos hq];exact zcm _ _
 ·rw[if_neg hq];have h5':(j.read nd nd.h.a).k=5:=by simpa using hq
  exact zg2 5 (by decide) h5' (ra (by rw[rds1 (by omega)];simp)) (by decide)
theorem zqd (D:Nat)(j:Jd)(nd:Nd)(w:World)(hj:j.At w)(hn:nd.At w)(hD:D≤w.heap.size)(hT:nd.h.t.Blk (fun b=>b<D))(hs1:slotsB j.f.slots.len nd.h.rds=true)(h9:nd.h.op=9→0≤nd.h.n∧nd.h.n<j.fns.len)(ho:1≤nd.h.op∧nd.h.op≤13):zbl D j nd w:=by
 have sl:∀{i},i ∈ nd.h.rds→0≤i∧i<j.f.slots.len:=fun hi=>zbg hs1 hi;have sz:∀{u},Below w.heap.size w u→D≤u.heap.size:=fun h=>Nat.le_trans hD h.size;by_cases h1:nd.h.op=1
 ·exact zlp D j nd w hj hD h1 (leafT 1 j.bot) (by unfold Jd.makes;rw[if_pos h1]) (fun u' _=>zis D j 1 u')
 by_cases h2:nd.h.op=2
 ·exact ztr D j nd w hj hD h2 (leafT 2 j.bot) (by unfold Jd.makes;rw[h2];rfl) (fun u' _=>zis D j 2 u')
 by_cases h3:nd.h.op=3
 ·have ha:=sl (i:=nd.h.a) (by rw[rds1 (by omega)];simp)
  exact zl4 D j nd w hj hD h3 (j.read nd nd.h.a) (by unfold Jd.makes;rw[h3];rfl) (fun u' hu'=>zbk D j nd nd.h.a u' (hj.kept hu') (sz hu') ha.1 ha.2)
 by_cases h4:nd.h.op=4
 ·have ha:=sl (i:=nd.h.a) (by rw[rds2 (by omega)];simp)
  have hb:=sl (i:=nd.h.b) (by rw[rds2 (by omega)];simp)
  exact zl7 D j nd w hj hD h4 (j.reck nd).1 (j.reck nd).2 (by unfold Jd.makes;rw[h4];rfl) (fun u' hu'=>zm4 D j nd u' (hj.kept hu') (sz hu') ha.1 ha.2 hb.1 hb.2)
 by_cases h5:nd.h.op=5
 ·have ha:=sl (i:=nd.h.a) (by rw[rds1 (by omega)];simp)
  exact zrj D j nd w hj hD h5 (fun u' hu'=>zbk D j nd nd.h.a u' (hj.kept hu') (sz hu') ha.1 ha.2)
 by_cases h6:nd.h.op=6
 ·have ha:=sl (i:=nd.h.a) (by rw[rds2 (by omega)];simp)
  have hb:=sl (i:=nd.h.b) (by rw[rds2 (by omega)];simp)
  exact zrg D j nd w hj hD h6 ha.1 ha.2 hb.1 hb.2
 by_cases h7:nd.h.op=7
 ·have ha:=sl (i:=nd.h.a) (by rw[rds1 (by omega)];simp)
  exact zs5 D j nd w hj hD h7 (j.side nd 0) (by unfold Jd.makes;rw[h7];rfl) (fun u' hu'=>zns D j nd 0 (by omega) u' (hj.kept hu') (sz hu') ha.1 ha.2)
 by_cases h8:nd.h.op=8
 ·have ha:=sl (i:=nd.h.a) (by rw[rds1 (by omega)];simp)
  exact zua D j nd w hj hD h8 (j.side nd 1) (by unfold Jd.makes;rw[h8];rfl) (fun u' hu'=>zns D j nd 1 (by omega) u' (hj.kept hu') (sz hu') ha.1 ha.2)
 by_cases h9':nd.h.op=9
 ·have hh:=h9 h9';exact zq8 D j nd w hj hD h9' (j.closed nd) (by unfold Jd.makes;rw[h9'];rfl) (fun u' hu'=>zq0 D j nd u' (hj.kept hu') (hn.ar.kept hu') (sz hu') hh.1 hh.2 (fun i hi=>sl (by rw[rds9 h9'];exact List.mem_map.2 ⟨i,by simpa using hi,rfl⟩)))
 by_cases h10:nd.h.op=10
 ·exact zpv D j nd w hj hD h10 (sigT j.n j.g j.f) (by unfold Jd.makes;rw[h10];rfl) (fun u' hu'=>zlh D j.n j.g j.f u' (hj.n.kept hu') (hj.g.kept hu') (hj.f.kept hu') (sz hu'))
 by_cases h11:nd.h.op=11
 ·have ha:=sl (i:=nd.h.a) (by rw[rds2 (by omega)];simp)
  have hb:=sl (i:=nd.h.b) (by rw[rds2 (by omega)];simp)
  exact zqo D j nd w hj hD h11 (j.called nd).1 (j.called nd).2 (by unfold Jd.makes;rw[h11];rfl) (fun u' hu'=>zq2 D j nd u' (hj.kept hu') (sz hu') ha.1 ha.2 hb.1 hb.2)
 by_cases h12:nd.h.op=12
 ·have ha:=sl (i:=nd.h.a) (by rw[rds1 (by omega)];simp)
  exact zp4 D j nd w hj hD h12 (j.cell nd) (by unfold Jd.makes;rw[h12];rfl) (fun u' hu'=>zwg D j nd u' (hj.kept hu') (sz hu') ha.1 ha.2 (hn.t.kept hu') hT)
 ·have h13:nd.h.op=13:=by omega
  have ha:=sl (i:=nd.h.a) (by rw[rds1 (by omega)];simp)
  exact zpp D j nd w hj hD h13 (j.held nd) (by unfold Jd.makes;rw[h13];rfl) (fun u' hu'=>zwd D j nd u' (hj.kept hu') (sz hu') ha.1 ha.2)
theorem ztk (j:Jd)(nd:Nd)(s:Sta)(w:World)(hj:j.At w)(hn:nd.At w)(hs:j.f.slots.len≤250)(hsh:nd.shp j.n j.g j.fns.len j.f.slots.len=true)
  (hbd:nd.h.op=16∨nd.h.op=17→∀t u,Below w.heap.size w u→zbs (j.list nd.bd t) j nd.bd t u) (hel:nd.h.op=16∨nd.h.op=17→∀t u,Below w.heap.size w u→zbs (j.list nd.el t) j nd.el t u):zcp (stpO j nd s) j nd s w:=by
 have hp:=zfk hn hsh;have hne:=zja hn hsh;have hop:=zlf hne;unfold stpO;by_cases h14:nd.h.op=14
 ·have ha:=zbg hp.1 (x:=nd.h.a) (by rw[rds2 (by omega)];simp)
  have hb:=zbg hp.1 (x:=nd.h.b) (by rw[rds2 (by omega)];simp)
  rw[if_pos h14];exact zrz j nd s w hj hn h14 (j.sets nd) _ rfl (fun u hu=>zva j nd u (hj.kept hu) ha.1 ha.2 hb.1 hb.2)
 by_cases h15:nd.h.op=15
 ·have ha:=zbg hp.1 (x:=nd.h.a) (by rw[rds1 (by omega)];simp)
  rw[if_neg h14,if_pos h15];exact zl9 j nd s w hj hn h15 (j.tells nd) _ rfl (fun u hu=>zly j nd u (hj.kept hu) ha.1 ha.2)
 by_cases h16:nd.h.op=16
 ·have ha:=zbg hp.1 (x:=nd.h.a) (by rw[rds1 (by omega)];simp)
  rw[if_neg h14,if_neg h15,if_pos h16];exact zr8 j nd s w hj hn h16 _ (fun u hu=>zpu j nd s u (hj.kept hu) (hn.kept hu) ha.1 ha.2 (fun t u' hu'=>hbd (Or.inl h16) t u' (Below.next hu hu')) (fun t u' hu'=>hel (Or.inl h16) t u' (Below.next hu hu')))
 by_cases h17:nd.h.op=17
 ·have hd:=hp.2 (by unfold Hd.wrs;rw[h17];rfl)
  rw[if_neg h14,if_neg h15,if_neg h16,if_pos h17];exact ztp j nd s w hj hn h17 _ (fun u hu=>zob j nd s u (hj.kept hu) (hn.kept hu) hd.1 hd.2 hs (fun t u' hu'=>hbd (Or.inr h17) t u' (Below.next hu hu')) (fun t u' hu'=>hel (Or.inr h17) t u' (Below.next hu hu')))
 by_cases h18:nd.h.op=18
 ·have ha:=zbg hp.1 (x:=nd.h.a) (by rw[rds1 (by omega)];simp)
  rw[if_neg h14,if_neg h15,if_neg h16,if_neg h17,if_pos h18];exact zsq j nd s w hj hn h18 ha.1 ha.2
 rw[if_neg h14,if_neg h15,if_neg h16,if_neg h17,if_neg h18];have hd:=hp.2 (by unfold Hd.wrs;simp[h14,h15,h16,h18])
 exact zl1 w.heap.size j nd s w hj hn (by omega) hd.1 hd.2 hs (Nat.le_refl _) (zwe hj hn hp.1 (fun h=>zkf hne h) (by omega)) (fun u hu=>zqd w.heap.size j nd u (hj.kept hu) (hn.kept hu) hu.size hn.t.lt hp.1 (fun h=>zkf hne h) (by omega))
theorem zlb (j:Jd)(b:Ns)(w:World)(hj:j.At w)(hb:b.At w)(hs:j.f.slots.len≤250)(hsh:∀i,i<b.len→(b.ps i).shp j.n j.g j.fns.len j.f.slots.len=true)
  (ih:∀i,i<b.len→(∀t u,Below w.heap.size w u→(b.ps i).h.op=16∨(b.ps i).h.op=17→zbs (j.list (b.ps i).bd t) j (b.ps i).bd t u)∧(∀t u,Below w.heap.size w u→(b.ps i).h.op=16∨(b.ps i).h.op=17→zbs (j.list (b.ps i).el t) j (b.ps i).el t u)) (s:Sta):zbs (j.list b s) j b s w:=by
 refine znv j b s w hj hb (fun i hi x hx=>?_) (fun i s=>stpO j (b.ps i) s) (fun i hi s=>ziq (hb.part i hi) s) (fun i hi s q hq=>?_)
 ·have:=zbg (zfk (hb.part i hi) (hsh i hi)).1 hx;omega
 ·exact ztk j (b.ps i) s q (hj.kept hq) ((hb.part i hi).kept hq) hs (hsh i hi) (fun ho t u hu=>(ih i hi).1 t u (Below.next hq hu) ho) (fun ho t u hu=>(ih i hi).2 t u (Below.next hq hu) ho)
theorem zxu (j:Jd)(hs:j.f.slots.len≤250):∀nd:Nd,∀w,j.At w→nd.At w→nd.shp j.n j.g j.fns.len j.f.slots.len=true→(∀t u,Below w.heap.size w u→nd.h.op=16∨nd.h.op=17→zbs (j.list nd.bd t) j nd.bd t u)∧(∀t u,Below w.heap.size w u→nd.h.op=16∨nd.h.op=17→zbs (j.list nd.el t) j nd.el t u):=by
 refine Nd.ind fun nd ih1 ih2 w hj hn hsh=>⟨fun t u hu ho=>?_,fun t u hu ho=>?_⟩
 ·have hx:=(zfe (zja hn hsh) ho).1;unfold Ns.shp at hx;have hx:=of_decide_eq_true hx;exact zlb j nd.bd u (hj.kept hu) (hn.bd.kept hu) hs hx (fun i hi=>ih1 i hi u (hj.kept hu) ((hn.bd.kept hu).part i hi) (hx i hi)) t
 ·have hx:=(zfe (zja hn hsh) ho).2;unfold Ns.shp at hx;have hx:=of_decide_eq_true hx;exact zlb j nd.el u (hj.kept hu) (hn.el.kept hu) hs hx (fun i hi=>ih2 i hi u (hj.kept hu) ((hn.el.kept hu).part i hi) (hx i hi)) t
theorem zsf (j:Jd)(b:Ns)(w:World)(hj:j.At w)(hb:b.At w)(hs:j.f.slots.len≤250)(hsh:b.shp j.n j.g j.fns.len j.f.slots.len=true)(s:Sta):zbs (j.list b s) j b s w:=by
 unfold Ns.shp at hsh;have hx:=of_decide_eq_true hsh;exact zlb j b w hj hb hs hx (fun i hi=>zxu j hs (b.ps i) w hj (hb.part i hi) (hx i hi)) s
theorem zq3 (n:Strs)(g:Grid)(l:Fl)(w:World)(hn:n.At w)(hg:g.At w)(hl:l.At w)(hcl:∀i,i<l.len→(l.ps i).caps.len≤1000000) :
  Calls Tryz.prog 6 #[.agg #[.slice n.ao n.len n.cap,.slice g.ao g.len g.cap],.slice l.ao l.len l.cap] w fun e w'=>∃a b:Int,e=.returned (.tuple #[.int .i64 a,.int .i64 b])∧ChkR n g l a b∧Below w.heap.size w w':=by
 refine zlx n g l w hn hg hl hcl fun hs i hi s u hu=>?_;have hp:=zd5 (zf6 hs hi);exact zsf (jdg n g l i) (l.ps i).body u ⟨hn.kept hu,hg.kept hu,hl.kept hu,(hl.part i hi).kept hu⟩ ((hl.part i hi).body.kept hu) hp.2.2.1 hp.1.2.2 s
theorem zf7 {n:Strs}{g:Grid}{m:Int}{k:Nat}{b s:Ns}(h:b.eqv s)(ih:∀i,i<b.len→(s.ps i).shp n g m k=(b.ps i).shp n g m k):s.shp n g m k=b.shp n g m k:=by
 unfold Ns.shp;apply decide_eq_decide.2
 rw[h.1];exact⟨fun hh i hi=>by rw[←ih i hi];exact hh i hi,fun hh i hi=>by rw[ih i hi];exact hh i hi⟩
theorem zp2 {n:Strs}{g:Grid}{m:Int}{k:Nat}{w u:World}:∀(a b:Nd),a.At w→b.At u→a.eqv b→b.shp n g m k=a.shp n g m k:=by
 intro a
 induction a using Nd.ind with
 | h a ih1 ih2 =>
  intro b ha hb he;have e1:=he.eqv_bd;have e2:=he.eqv_el;rw[Nd.shp_eq ha,Nd.shp_eq hb,he.eqv_h,zf7 e1 (fun i hi=>ih1 i hi _ (ha.bd.part i hi) (hb.bd.part i (by rw[e1.1];exact hi)) (e1.2 i hi)),zf7 e2 (fun i hi=>ih2 i hi _ (ha.el.part i hi) (hb.el.part i (by rw[e2.1];exact hi)) (e2.2 i hi))]
theorem zxy {n:Strs}{g:Grid}{m:Int}{k:Nat}{w u:World}{b s:Ns}(hb:b.At w)(hs:s.At u)(h:b.eqv s):s.shp n g m k=b.shp n g m k :=
 zf7 h fun i hi=>zp2 _ _ (hb.part i hi) (hs.part i (by rw[h.1];exact hi)) (h.2 i hi)
theorem zou {n:Strs}{g:Grid}{m:Int}{w u:World}{f f':Fc}(hf:f.At w)(hf':f'.At u)(h:FeV f f'):hldB n g m f'=hldB n g m f:=by
 obtain⟨s,rfl,he⟩:=h;have hs:s.At u:=hf'.body;have e1:s.cnt 1 0=f.body.cnt 1 0:=by rw[znj hs,znj hf.body,rc_eqv he]
 have e2:s.shp n g m f.slots.len=f.body.shp n g m f.slots.len:=zxy hf.body hs he;show (((zcf n g f&&decide (s.cnt 1 0≤4096))&&s.shp n g m f.slots.len)&&((f.out==-1)||slotsB f.slots.len [f.out]))=_
 rw[e1,e2];rfl
theorem zpi {n:Strs}{g:Grid}{w u:World}{l L:Fl}(hl:l.At w)(hL:L.At u)(hn:L.len=l.len)(h:∀i,i<l.len→FeV (l.ps i) (L.ps i)):shdB n g L=shdB n g l:=by
 unfold shdB;rw[hn]
 congr 1
 apply decide_eq_decide.2
 exact⟨fun hh i hi=>by rw[←zou (hl.part i hi) (hL.part i (by rw[hn];exact hi)) (h i hi)];exact hh i hi,fun hh i hi=>by rw[zou (hl.part i hi) (hL.part i (by rw[hn];exact hi)) (h i hi)];exact hh i hi⟩
theorem zqq {n:Strs}{g:Grid}{bt:Int}{l L:Fl}{f:Fc}{s:Ns}{a b:Nd}(hh:b.h=a.h)(hL:FeV (l.ps a.h.n.toNat) (L.ps a.h.n.toNat)):Jd.closed ⟨n,g,bt,L,{ f with body:=s }⟩ b=Jd.closed ⟨n,g,bt,l,f⟩ a:=by
 obtain⟨t,e,_⟩:=hL;unfold Jd.closed Jd.read;dsimp only
 rw[hh,e];rfl
theorem ztv {n:Strs}{g:Grid}{bt:Int}{l L:Fl}{f:Fc}{s:Ns}{a b:Nd}(hh:b.h=a.h)(hL:a.h.op=9→FeV (l.ps a.h.n.toNat) (L.ps a.h.n.toNat)):Jd.makes ⟨n,g,bt,L,{ f with body:=s }⟩ b=Jd.makes ⟨n,g,bt,l,f⟩ a:=by
 by_cases h9:a.h.op=9
 ·have e:=zqq (n:=n) (g:=g) (bt:=bt) (f:=f) (s:=s) hh (hL h9);unfold Jd.makes;rw[hh,h9];show (Jd.closed _ b,(-1:Int))=(Jd.closed _ a,-1)
  rw[e]
 ·unfold Jd.makes;rw[hh];simp only[if_neg h9];unfold Jd.reck Jd.side Jd.called Jd.cell Jd.held Jd.read;dsimp only
  rw[hh];rfl
theorem zn9 {f h:Nat→Sta→Option Sta}:∀(k:Nat),(∀i,i<k→∀s,f i s=h i s)→∀s,za7 f k s=za7 h k s
 | 0,_,_=>rfl
 | k+1,hh,s=>by
  show (za7 f k s).bind (f k)=(za7 h k s).bind (h k)
  rw[zn9 k (fun i hi=>hh i (by omega)) s];have e:f k=h k:=funext fun s=>hh k (by omega) s;rw[e]
theorem zjs {j j':Jd}{b s:Ns}(h:b.eqv s)(ih:∀i,i<b.len→∀u,(s.ps i).run j' u=(b.ps i).run j u)(u:Sta):j'.list s u=j.list b u:=by
 unfold Jd.list;rw[h.1];exact zn9 _ (fun i hi u=>ih i hi u) u
theorem zxo {n:Strs}{g:Grid}{bt:Int}{l L:Fl}{f:Fc}{s:Ns}{m:Nat}{w u:World}(hL:∀i,i<m→FeV (l.ps i) (L.ps i)):∀(a b:Nd),a.At w→b.At u→a.eqv b→a.shp n g m f.slots.len=true→∀t,b.run ⟨n,g,bt,L,{ f with body:=s }⟩ t=a.run ⟨n,g,bt,l,f⟩ t:=by
 intro a
 induction a using Nd.ind with
 | h a ih1 ih2 =>
  intro b ha hb he hs t;have e1:=he.eqv_bd;have e2:=he.eqv_el;have hh:=he.eqv_h;have hn:=zja ha hs;have eP:Jd.pre ⟨n,g,bt,L,{ f with body:=s }⟩ b t=Jd.pre ⟨n,g,bt,l,f⟩ a t:=by unfold Jd.pre;rw[hh]
  rw[ziq hb,ziq ha,eP];have key:stpO ⟨n,g,bt,L,{ f with body:=s }⟩ b t=stpO ⟨n,g,bt,l,f⟩ a t:=by
   unfold stpO;rw[hh];have lists:a.h.op=16∨a.h.op=17→(∀v,Jd.list ⟨n,g,bt,L,{ f with body:=s }⟩ b.bd v=Jd.list ⟨n,g,bt,l,f⟩ a.bd v)∧∀v,Jd.list ⟨n,g,bt,L,{ f with body:=s }⟩ b.el v=Jd.list ⟨n,g,bt,l,f⟩ a.el v:=fun ho=>by
    have hx:=zfe hn ho;exact⟨zjs e1 (fun i hi v=>ih1 i hi _ (ha.bd.part i hi) (hb.bd.part i (by rw[e1.1];exact hi)) (e1.2 i hi) (of_decide_eq_true hx.1 i hi) v),zjs e2 (fun i hi v=>ih2 i hi _ (ha.el.part i hi) (hb.el.part i (by rw[e2.1];exact hi)) (e2.2 i hi) (of_decide_eq_true hx.2 i hi) v)⟩
   by_cases h14:a.h.op=14
   ·rw[if_pos h14,if_pos h14];unfold Jd.sets Jd.read;rw[hh]
   rw[if_neg h14,if_neg h14];by_cases h15:a.h.op=15
   ·rw[if_pos h15,if_pos h15];unfold Jd.tells Jd.read;rw[hh]
   rw[if_neg h15,if_neg h15];by_cases h16:a.h.op=16
   ·rw[if_pos h16,if_pos h16];obtain⟨l1,l2⟩:=lists (Or.inl h16);unfold chO Jd.read;rw[hh];dsimp only
    simp only[l1,l2];rfl
   rw[if_neg h16,if_neg h16];by_cases h17:a.h.op=17
   ·rw[if_pos h17,if_pos h17];obtain⟨l1,l2⟩:=lists (Or.inr h17);unfold atO;rw[hh];dsimp only
    simp only[l1,l2];rfl
   rw[if_neg h17,if_neg h17];by_cases h18:a.h.op=18
   ·rw[if_pos h18,if_pos h18];unfold raO Jd.read;rw[hh]
   rw[if_neg h18,if_neg h18];have eM:=ztv (n:=n) (g:=g) (bt:=bt) (l:=l) (L:=L) (f:=f) (s:=s) hh (fun h9=>by have:=zkf hn h9;exact hL _ (by omega))
   unfold Jd.make;rw[eM,hh]
  rw[key]
theorem zh0 {n:Strs}{g:Grid}{w u:World}{l L:Fl}(hl:l.At w)(hL:L.At u)(hn:L.len=l.len)(h:∀i,i<l.len→FeV (l.ps i) (L.ps i))(hs:shdB n g l=true){k:Nat}(hk:k<l.len):(jdg n g L k).right=(jdg n g l k).right:=by
 have hp:=zd5 (zf6 hs hk);obtain⟨s,es,he⟩:=h k hk;have hf':=hL.part k (by rw[hn];exact hk)
 have hf:=hl.part k hk;have hx:=hp.1.2.2;unfold Ns.shp at hx;have hx':=of_decide_eq_true hx;have hsA:s.At u:=by rw[es] at hf';exact hf'.body
 show Jd.right ⟨n,g,botI n g,L,L.ps k⟩=Jd.right ⟨n,g,botI n g,l,l.ps k⟩
 rw[es];unfold Jd.right;have e:Jd.list ⟨n,g,botI n g,L,{ l.ps k with body:=s }⟩ s (Jd.start ⟨n,g,botI n g,L,{ l.ps k with body:=s }⟩)=Jd.list ⟨n,g,botI n g,l,l.ps k⟩ (l.ps k).body (Jd.start ⟨n,g,botI n g,l,l.ps k⟩) :=
  zjs he (fun i hi v=>zxo h _ _ (hf.body.part i hi) (hsA.part i (by rw[he.1];exact hi)) (he.2 i hi) (hx' i hi) v) _
 dsimp only
 rw[e];rfl
theorem zw8 {n:Strs}{g:Grid}{l:Fl}{x y x' y':Int}(h:ChkR n g l x y)(h':ChkR n g l x' y'):x=x'∧y=y':=by
 rcases h with ⟨h1,rfl,rfl⟩ | ⟨h1,k,hk,ha,hb,rfl,rfl⟩ | ⟨h1,ha,rfl,rfl⟩
 ·rcases h' with ⟨_,rfl,rfl⟩ | ⟨h2,_⟩ | ⟨h2,_⟩
  ·exact⟨rfl,rfl⟩
  ·rw[h1] at h2;cases h2
  ·rw[h1] at h2;cases h2
 ·rcases h' with ⟨h2,_⟩ | ⟨_,k',hk',ha',hb',rfl,rfl⟩ | ⟨_,ha',_⟩
  ·rw[h1] at h2;cases h2
  ·have e:k=k':=by
    rcases Nat.lt_trichotomy k k' with h | h | h
    ·have:=ha' k h;rw[hb] at this;cases this
    ·exact h
    ·have:=ha k' h;rw[hb'] at this;cases this
   subst e;exact⟨rfl,rfl⟩
  ·have:=ha' k hk;rw[hb] at this;cases this
 ·rcases h' with ⟨h2,_⟩ | ⟨_,k',hk',_,hb',_⟩ | ⟨_,_,rfl,rfl⟩
  ·rw[h1] at h2;cases h2
  ·have:=ha k' hk';rw[hb'] at this;cases this
  ·exact⟨rfl,rfl⟩
theorem zxf {n:Strs}{g:Grid}{w u:World}{l L:Fl}(hl:l.At w)(hL:L.At u)(hn:L.len=l.len)(h:∀i,i<l.len→FeV (l.ps i) (L.ps i)){x y:Int}(hc:ChkR n g L x y):ChkR n g l x y:=by
 have e:=zpi (n:=n) (g:=g) hl hL hn h;unfold ChkR at hc ⊢;rw[e,hn] at hc;rcases hc with hc | ⟨h1,k,hk,ha,hb,hx⟩ | ⟨h1,ha,hx⟩
 ·exact Or.inl hc
 ·exact Or.inr (Or.inl ⟨h1,k,hk,fun i hi=>by rw[←zh0 hl hL hn h h1 (by omega)];exact ha i hi,by rw[←zh0 hl hL hn h h1 hk];exact hb,hx⟩)
 ·exact Or.inr (Or.inr ⟨h1,fun i hi=>by rw[←zh0 hl hL hn h h1 hi];exact ha i hi,hx⟩)
theorem zno {w u:World}{l s:Fl}(hl:l.At w)(hb:Below w.heap.size w u)(h:PlF w l s u):s.At u:=by
 refine⟨h.nil,by rw[h.len];exact hl.bound,h.cells,fun i hi=>?_⟩
 have hi':i<l.len:=by rw[←h.len];exact hi
 obtain⟨t,e,he⟩:=h.eq i hi';have hr:=h.rw_ i hi';have hf:=(hl.part i hi').kept hb;rw[e] at hr ⊢;exact⟨hf.param,hf.result,hf.caps,hf.slots,zw2 hb (hl.part i hi').body he hr,hf.lc⟩
end
end Go.Proofs.YtgioppfoceddfaaGreat
