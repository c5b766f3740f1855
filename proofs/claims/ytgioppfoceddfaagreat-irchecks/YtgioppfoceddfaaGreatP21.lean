import Derived.Test.YtgioppfoceddfaaGreatP20
import Derived.Test.YtgioppfoceddfaaGreatP7
import Derived.Test.YtgioppfoceddfaaGreatP17
import Derived.Test.YtgioppfoceddfaaGreatP18
set_option maxRecDepth 100000
set_option maxHeartbeats 32000000
namespace Go.Proofs.YtgioppfoceddfaaGreat
section
open Go Go.RowKit
def zhc (o:Option Sta)(w:World)(e:Ending)(w':World):Prop:=∃(s:Sta) (ok:Bool),e=.returned (.tuple #[.agg s.vs.toArray,.bool ok])∧ok=o.isSome∧(∀s1,o=some s1→s=s1)∧Below w.heap.size w w'
structure Nw (w:World)(j:Jd)(nd:Nd)(s z:Sta)(u:World):Prop where
 bl:Below w.heap.size w u
 hj:j.At u
 hn:nd.At u
 J:Blk u w.heap.size j.vs 48
 N:Blk u (w.heap.size+1) nd.vs 65
 S:Blk u (w.heap.size+2) s.vs 71
 Z:Blk u (w.heap.size+3) z.vs 71
 sz:w.heap.size+4≤u.heap.size
theorem Nw.kept {w:World}{j:Jd}{nd:Nd}{s z:Sta}{u u':World}(h:Nw w j nd s z u)(hb:Below u.heap.size u u'):Nw w j nd s z u' :=
 ⟨Below.next h.bl hb,h.hj.kept hb,h.hn.kept hb,h.J.kept hb,h.N.kept hb,h.S.kept hb,h.Z.kept hb,Nat.le_trans h.sz hb.size⟩
def nwW (w:World)(j:Jd)(nd:Nd)(s:Sta):World:=(((w.alloc (.cells j.va 48)).alloc (.cells nd.va 65)).alloc (.cells s.va 71)).alloc (.cells Sta.zero.va 71)
theorem zfl (w:World)(j:Jd)(nd:Nd)(s:Sta)(hj:j.At w)(hn:nd.At w):Nw w j nd s Sta.zero (nwW w j nd s):=by
 have H:=zar [.cells j.va 48,.cells nd.va 65,.cells s.va 71,.cells Sta.zero.va 71] w;have B0:=zap [.cells j.va 48,.cells nd.va 65,.cells s.va 71,.cells Sta.zero.va 71] w;have SZ:=za9 [.cells j.va 48,.cells nd.va 65,.cells s.va 71,.cells Sta.zero.va 71] w;simp only[List.foldl,List.length] at H B0 SZ;exact⟨B0,hj.kept B0,hn.kept B0,H 0 (by simp),H 1 (by simp),H 2 (by simp),H 3 (by simp),by show _≤(World.heap _).size;exact Nat.le_of_eq SZ.symm⟩
theorem Nw.wroteS {w:World}{j:Jd}{nd:Nd}{s s' z:Sta}{u u':World}(h:Nw w j nd s z u)(hj:j.At w)(hn:nd.At w)(W:WroteB u u' (w.heap.size+2) s'.vs 71):Nw w j nd s' z u' :=
 have hb:=W.below (B0:=w.heap.size) (a:=w) (by omega) h.bl
 ⟨hb,hj.kept hb,hn.kept hb,W.keep h.J (by omega),W.keep h.N (by omega),W.blk,W.keep h.Z (by omega),by rw[W.size];exact h.sz⟩
theorem Nw.wroteZ {w:World}{j:Jd}{nd:Nd}{s z z':Sta}{u u':World}(h:Nw w j nd s z u)(hj:j.At w)(hn:nd.At w)(W:WroteB u u' (w.heap.size+3) z'.vs 71):Nw w j nd s z' u' :=
 have hb:=W.below (B0:=w.heap.size) (a:=w) (by omega) h.bl
 ⟨hb,hj.kept hb,hn.kept hb,W.keep h.J (by omega),W.keep h.N (by omega),W.keep h.S (by omega),W.blk,by rw[W.size];exact h.sz⟩
theorem zbt {l:List Oper}:∀{js:List Nat},(js.all fun i=>decide (i<l.length))=true→∀j,j<(js.filterMap (l[·]?)).length→∃i,js[j]?=some i∧l.toArray[i]?=(js.filterMap (l[·]?))[j]?
 | [],_,j,hj=>absurd hj (Nat.not_lt_zero _)
 | i :: js,h,j,hj=>by
  simp only[List.all_cons,Bool.and_eq_true,decide_eq_true_eq] at h;have e:l[i]?=some l[i]:=List.getElem?_eq_getElem h.1;rw[List.filterMap_cons,e] at hj ⊢;cases j with
  | zero=>exact⟨i,rfl,by simp[e]⟩
  | succ j =>
   obtain⟨i',h1,h2⟩:=zbt h.2 j (by simpa using hj);exact⟨i',by simpa using h1,by simpa using h2⟩
def Sn (w:World)(j:Jd)(nd:Nd)(s:Sta)(u:Ty)(B9:Nat)(q:World):Prop:=Below w.heap.size w q∧Blk q w.heap.size j.vs 48∧Blk q (w.heap.size+1) nd.vs 65∧Blk q (w.heap.size+2) s.vs 71∧Blk q B9 u.vs 38
def zcp (o:Option Sta)(j:Jd)(nd:Nd)(s:Sta)(w:World):Prop:=Calls Tryz.prog 56 #[.agg j.va,.agg nd.va,.agg s.va] w (zhc o w)
theorem zl1 (D:Nat)(j:Jd)(nd:Nd)(s:Sta)(w:World)(hj:j.At w)(hn:nd.At w)(hop:¬(nd.h.op=14∨nd.h.op=15∨nd.h.op=16∨nd.h.op=17∨nd.h.op=18))(hd:0≤nd.h.dst)(hd1:nd.h.dst<j.f.slots.len)(hs:j.f.slots.len≤250)
  (hD:D≤w.heap.size) (hnd:(j.makes nd).1.Nd) (hc:∀u,Below w.heap.size w u→zbl D j nd u):zcp (j.make nd s) j nd s w:=by
 unfold zcp;simp only[not_or] at hop;have e14:=beqI hop.1;have e15:=beqI hop.2.1;have e16:=beqI hop.2.2.1;have e17:=beqI hop.2.2.2.1;have e18:=beqI hop.2.2.2.2;have HI:=hid (zfl w j nd s hj hn);have c0:=HI.out.N.cell 0 (v:=.int .i64 nd.h.op) rfl;unfold nwW at HI c0;have HH:=hid (show (0≤nd.h.dst∧nd.h.dst<j.f.slots.len∧j.f.slots.len≤250)∧D≤w.heap.size∧(∀u,Below w.heap.size w u→zbl D j nd u) from ⟨⟨hd,hd1,hs⟩,hD,hc⟩);have HJ:=hid (show j.At w∧nd.At w from ⟨hj,hn⟩);have HND:=hid hnd;clear hnd;have HG:Hid (j.make nd s=if belB j.n j.g (zai j.n j.g (j.makes nd).1 (zad j.n j.g nd.h.env (j.makes nd).2)) (j.f.slots.ps nd.h.dst.toNat)=true then some ⟨zad j.n j.g s.at_ (j.makes nd).2,zad j.n j.g s.x (j.makes nd).2,upd s.set nd.h.dst.toNat,s.gone⟩ else none):=by show _=_;rfl
 clear hop hj hn hd hd1 hs hD hc;go_enter Tryz.func56,Tryz.ntmps56
 go_upto_region 1 with (refine zbd rfl rfl ?_)
 generalize ((((w.alloc (.cells j.va 48)).alloc (.cells nd.va 65)).alloc (.cells s.va 71)).alloc (.cells Sta.zero.va 71))=w1 at *;generalize nd.h.op=op at *;have bJ:=HI.out.J;have bN:=HI.out.N;go_wp2_with (first | (refine wpList_load_mid rfl 48 (.tmp 3) rfl w.heap.size 0 (by kernel_rfl) j.vs _ bJ.range Tryz.underlying48 rfl (by kernel_rfl) ?_) | (refine wpList_load_mid rfl 65 (.tmp 4) rfl (w.heap.size+1) 0 (by kernel_rfl) nd.vs _ bN.range Tryz.underlying65 rfl (by kernel_rfl) ?_))
 refine (HH.out.2.2 w1 HI.out.bl).mono ?_;rintro _ w2 ⟨u,rfl,uA,uB,uS,hb⟩;have HI2:=hid (HI.out.kept hb);have HU:=hid (show u.At w2∧u.Blk (fun b=>b<D∨w.heap.size+4≤b)∧u.same (j.makes nd).1=true from ⟨uA,uB.mono (fun b h=>by have:=HI.out.sz;omega),uS⟩)
 clear HI bJ bN c0 hb uA uB uS e14 e15 e16 e17 e18;generalize (j.makes nd).2=k at *;generalize (j.makes nd).1=r at *;have hN:=zac w2 (.cells u.vs.toArray 38);have HB:Hid (Nw w j nd s Sta.zero (w2.alloc (.cells u.vs.toArray 38))∧Blk (w2.alloc (.cells u.vs.toArray 38)) w2.heap.size u.vs 38∧u.At (w2.alloc (.cells u.vs.toArray 38))∧u.Blk (fun b=>b<D∨w.heap.size+4≤b)∧u.same r=true∧w.heap.size+4≤w2.heap.size):=⟨HI2.out.kept hN,Blk.new w2 _ _,HU.out.1.kept hN,HU.out.2.1,HU.out.2.2,HI2.out.sz⟩;clear hN HI2 HU;go_upto_region 15 with (refine zao rfl rfl 38 rfl (.tmp 9) (.tmp 64) rfl zTv (alloc_ty _) rfl u.vs.toArray (by kernel_rfl) (by kernel_rfl) rfl (by kernel_rfl) (by simpa using u.vs_one) ?_)
 generalize (w2.alloc (.cells u.vs.toArray 38))=w3 at *;generalize w2.heap.size=B9 at *;have hC0:∀q,(∃x:Gr w3,q=x.w)→q.rangeAt w.heap.size 0 j.vs:=by rintro _ ⟨x,rfl⟩;exact (HB.out.1.J.kept x.bl).range
 have p0:∀x:Gr w3,x.w.cell? ⟨w.heap.size+2,0,none⟩=some (.int .i64 s.at_):=fun x=>(HB.out.1.S.kept x.bl).cell 0 s.v0;have p1:∀x:Gr w3,x.w.cell? ⟨w.heap.size+2,1,none⟩=some (.int .i64 s.x):=fun x=>(HB.out.1.S.kept x.bl).cell 1 s.v1;have HBt:∀(a b:Int) (x:Gr w3),Calls Tryz.prog 90 #[.agg j.vs.toArray,.int .i64 a,.int .i64 b] x.w fun e w'=>e=.returned (.int .i64 (zad j.n j.g a b))∧Below x.w.heap.size x.w w':=fun a b x=>zbz j a b x.w (HB.out.1.hj.n.kept x.bl) (HB.out.1.hj.g.kept x.bl);have hNE:Nonempty (Gr w3):=⟨⟨_,Below.refl _ _⟩⟩;refine zah 11 (by kernel_rfl) (by kernel_rfl) ?_;simp only[List.take,List.drop];go_big_quiet_want;refine zaa 48 (.tmp 3) rfl _ 0 (by kernel_rfl) j.vs _ hC0 Tryz.underlying48 rfl (by kernel_rfl) ?_;simp only[Act.put,zA,zB,zC];go_big_quiet_on;iterate 3 go_big_quiet_step (fail)
 go_big_quiet_step ((go_at_call 90;exact Calls.gr _ (HBt _ _ _)))
 go_big_quiet_want;refine zaa 48 (.tmp 3) rfl _ 0 (by kernel_rfl) j.vs _ hC0 Tryz.underlying48 rfl (by kernel_rfl) ?_;simp only[Act.put,zA,zB,zC];go_big_quiet_on;iterate 3 go_big_quiet_step (fail)
 go_big_quiet_step ((go_at_call 90;exact Calls.gr _ (HBt _ _ _)))
 go_big_quiet_step (fail)
 refine wpQuiet_nil ?_;rintro w4 ⟨x4,rfl⟩;have B5:=x4.bl;generalize x4.w=w4 at B5 ⊢;have HC:=hid (show Nw w j nd s Sta.zero w4∧Blk w4 B9 u.vs 38∧u.At w4∧u.Blk (fun b=>b<D∨w.heap.size+4≤b)∧u.same r=true∧w.heap.size+4≤B9 from ⟨HB.out.1.kept B5,HB.out.2.1.kept B5,HB.out.2.2.1.kept B5,HB.out.2.2.2.1,HB.out.2.2.2.2.1,HB.out.2.2.2.2.2⟩);clear x4 B5 hC0 p0 p1 HBt hNE HB;obtain⟨at1,hat⟩:∃y,y=zad j.n j.g s.at_ k:=⟨_,rfl⟩;obtain⟨x1,hx1⟩:∃y,y=zad j.n j.g s.x k:=⟨_,rfl⟩;rw[←hat,←hx1] at HG ⊢;clear hat hx1;have q0:=HC.out.1.S.cell 0 s.v0;have q1:=HC.out.1.S.cell 1 s.v1;have g0:=HC.out.1.S.frozen 0;have g1:=HC.out.1.S.frozen 1;go_upto_region 16 with fail
 have W1:=zbo (i:=0) HC.out.1.S (.int .i64 at1);have W2:=zbo (i:=1) W1.blk (.int .i64 x1);rw[s.put0] at W1;rw[s.put0,Sta.put1] at W2;have HC2:=hid (show Nw w j nd ⟨at1,x1,s.set,s.gone⟩ Sta.zero _∧Blk _ B9 u.vs 38∧u.At _∧u.Blk (fun b=>b<D∨w.heap.size+4≤b)∧u.same r=true∧w.heap.size+4≤B9 from ⟨(HC.out.1.wroteS (s':=⟨at1,s.x,s.set,s.gone⟩) HJ.out.1 HJ.out.2 W1).wroteS (s':=⟨at1,x1,s.set,s.gone⟩) HJ.out.1 HJ.out.2 W2,W2.keep (W1.keep HC.out.2.1 (by have:=HC.out.2.2.2.2.2;omega)) (by have:=HC.out.2.2.2.2.2;omega),(HC.out.2.2.1.wrote HC.out.2.2.2.1 W1 (by have:=HH.out.2.1;omega) (by omega)).wrote HC.out.2.2.2.1 W2 (by have:=HH.out.2.1;omega) (by omega),HC.out.2.2.2.1,HC.out.2.2.2.2.1,HC.out.2.2.2.2.2⟩)
 clear W1 W2 q0 q1 g0 g1 HC;generalize ((w4.setCell ⟨w.heap.size+2,0,none⟩ (.int .i64 at1)).setCell ⟨w.heap.size+2,1,none⟩ (.int .i64 x1))=w5 at *;obtain⟨dn,hdn⟩:∃m:Nat,nd.h.dst=m:=⟨nd.h.dst.toNat,by have:=HH.out.1.1;omega⟩
 have hd250:dn<250:=by have:=HH.out.1;omega
 have hdl:dn<j.f.slots.len:=by have:=HH.out.1;omega
 have c1:=HC2.out.1.N.cell 1 (v:=.int .i64 nd.h.dst) rfl;have d2:=HC2.out.1.S.cell (2+dn) (Sta.v2 ⟨at1,x1,s.set,s.gone⟩ hd250);have g2:=HC2.out.1.S.frozen (2+dn);rw[hdn] at c1;have HDN:=hid (show nd.h.dst=dn∧dn<j.f.slots.len∧dn<250 from ⟨hdn,hdl,hd250⟩);clear hdn hdl;go_upto_region 17 with fail
 have W1:=zbo (i:=2+dn) HC2.out.1.S (.bool true);rw[Sta.put2 _ hd250] at W1;have HC3:=hid (show Nw w j nd ⟨at1,x1,upd s.set dn,s.gone⟩ Sta.zero _∧Blk _ B9 u.vs 38∧u.At _∧u.Blk (fun b=>b<D∨w.heap.size+4≤b)∧u.same r=true∧w.heap.size+4≤B9 from ⟨HC2.out.1.wroteS (s':=⟨at1,x1,upd s.set dn,s.gone⟩) HJ.out.1 HJ.out.2 W1,W1.keep HC2.out.2.1 (by have:=HC2.out.2.2.2.2.2;omega),HC2.out.2.2.1.wrote HC2.out.2.2.2.1 W1 (by have:=HH.out.2.1;omega) (by omega),HC2.out.2.2.2.1,HC2.out.2.2.2.2.1,HC2.out.2.2.2.2.2⟩)
 clear W1 c1 d2 g2 HC2 hd250;generalize (w5.setCell ⟨w.heap.size+2,2+dn,none⟩ (.bool true))=w6 at *;have hDr:=(Below.refl w6.heap.size w6).drew;have HC4:=hid (show Nw w j nd ⟨at1,x1,upd s.set dn,s.gone⟩ Sta.zero w6.drew∧Blk w6.drew B9 u.vs 38∧u.At w6.drew∧u.Blk (fun b=>b<D∨w.heap.size+4≤b)∧u.same r=true∧w.heap.size+4≤B9 from ⟨HC3.out.1.kept hDr,HC3.out.2.1.kept hDr,HC3.out.2.2.1.kept hDr,HC3.out.2.2.2.1,HC3.out.2.2.2.2.1,HC3.out.2.2.2.2.2⟩);clear HC3 hDr;refine zal (Sn w j nd ⟨at1,x1,upd s.set dn,s.gone⟩ u B9) [0,1,2,3,4,5,6,7,8,11,12,13,14,15,16,17] 5 (by kernel_rfl) rfl (by kernel_rfl) (zbt (by kernel_rfl)) ⟨HC4.out.1.bl,HC4.out.1.J,HC4.out.1.N,HC4.out.1.S,HC4.out.2.1⟩ ?_;have hS:∀q,(∃x:Wd (Sn w j nd ⟨at1,x1,upd s.set dn,s.gone⟩ u B9),q=x.w)→Sn w j nd ⟨at1,x1,upd s.set dn,s.gone⟩ u B9 q:=by rintro _ ⟨x,rfl⟩;exact x.2
 have hao:=HJ.out.1.f.slots.nil (by have:=HDN.out.2.1;omega)
 have p0:∀x:Wd (Sn w j nd ⟨at1,x1,upd s.set dn,s.gone⟩ u B9),x.w.cell? ⟨w.heap.size,0,none⟩=some (.slice j.n.ao j.n.len j.n.cap):=fun x=>x.2.2.1.cell 0 rfl;have p1:∀x:Wd (Sn w j nd ⟨at1,x1,upd s.set dn,s.gone⟩ u B9),x.w.cell? ⟨w.heap.size,1,none⟩=some (.slice j.g.ao j.g.len j.g.cap):=fun x=>x.2.2.1.cell 1 rfl;have p5:∀x:Wd (Sn w j nd ⟨at1,x1,upd s.set dn,s.gone⟩ u B9),x.w.cell? ⟨w.heap.size+1,5,none⟩=some (.int .i64 nd.h.env):=fun x=>x.2.2.2.1.cell 5 rfl;have p17:∀x:Wd (Sn w j nd ⟨at1,x1,upd s.set dn,s.gone⟩ u B9),x.w.cell? ⟨w.heap.size,17,none⟩=some (.slice (some ⟨j.f.slots.b,j.f.slots.o,none⟩) j.f.slots.len j.f.slots.cap):=fun x=>x.2.2.1.cell 17 (by rw[←hao];rfl)
 have pd:∀x:Wd (Sn w j nd ⟨at1,x1,upd s.set dn,s.gone⟩ u B9),x.w.cell? ⟨w.heap.size+1,1,none⟩=some (.int .i64 (dn:Int)):=fun x=>x.2.2.2.1.cell 1 (by rw[←HDN.out.1];rfl)
 have hdl:(dn:Int)<j.f.slots.len:=by have:=HDN.out.2.1;omega
 have hNE:Nonempty (Wd (Sn w j nd ⟨at1,x1,upd s.set dn,s.gone⟩ u B9)):=⟨⟨w6.drew,HC4.out.1.bl,HC4.out.1.J,HC4.out.1.N,HC4.out.1.S,HC4.out.2.1⟩⟩;simp only[List.filterMap,zD,zE];generalize w6.drew=w7 at *;clear hao;go_big_quiet_want;refine zaa 71 (.tmp 5) rfl _ 0 (by kernel_rfl) (⟨at1,x1,upd s.set dn,s.gone⟩:Sta).vs _ (fun q hq=>(hS q hq).2.2.2.1.range) Tryz.underlying71 rfl (by rw[Sta.len];kernel_rfl) ?_
 simp only[Act.put,zA,zB,zC];go_big_quiet_on;iterate 2 go_big_quiet_step (fail)
 go_big_quiet_want;refine zaa 48 (.tmp 3) rfl _ 0 (by kernel_rfl) j.vs _ (fun q hq=>(hS q hq).2.1.range) Tryz.underlying48 rfl (by kernel_rfl) ?_;simp only[Act.put,zA,zB,zC];go_big_quiet_on;go_big_quiet_want;refine zaa 38 (.tmp 9) rfl _ 0 (by kernel_rfl) u.vs _ (fun q hq=>(hS q hq).2.2.2.2.range) Tryz.underlying38 rfl (by kernel_rfl) ?_;simp only[Act.put,zA,zB,zC];go_big_quiet_on;go_big_quiet_want;refine zaa 48 (.tmp 3) rfl _ 0 (by kernel_rfl) j.vs _ (fun q hq=>(hS q hq).2.1.range) Tryz.underlying48 rfl (by kernel_rfl) ?_;simp only[Act.put,zA,zB,zC];go_big_quiet_on;iterate 9 go_big_quiet_step (fail)
 go_big_quiet_want;refine zaa 38 (.tmp 98) rfl j.f.slots.b (j.f.slots.o+dn*5) (by kernel_rfl) (j.f.slots.ps dn).vs _ (fun q hq=>C5.row ((HJ.out.1.f.slots.kept (hS q hq).1).cells HDN.out.2.1)) Tryz.underlying38 rfl (by kernel_rfl) ?_;simp only[Act.put,zA,zB,zC];go_big_quiet_on;refine wpQuiet_nil ?_;clear hS p0 p1 p5 p17 pd hNE hdl;refine wpAnyH_ready (rs:=[9]) (by kernel_rfl) (by simp) ?_;refine AllReadyH.cons rfl (fun K hK=>?_) AllReadyH.nil;rw[if_pos (by rfl)];go_simp;refine (zbz j nd.h.env k w7 HC4.out.1.hj.n HC4.out.1.hj.g).mono ?_;rintro _ w8 ⟨rfl,hb8⟩;have HC5:=hid (show Nw w j nd ⟨at1,x1,upd s.set dn,s.gone⟩ Sta.zero w8∧Blk w8 B9 u.vs 38∧u.At w8 from ⟨HC4.out.1.kept hb8,HC4.out.2.1.kept hb8,HC4.out.2.2.1.kept hb8⟩);refine hK.out _ _ ⟨HC5.out.1.bl,HC5.out.1.J,HC5.out.1.N,HC5.out.1.S,HC5.out.2.1⟩ (fun _=>?_);clear hK K hb8;generalize zad j.n j.g nd.h.env k=ek at *;refine wpAnyH_ready (rs:=[10]) (by kernel_rfl) (by simp) ?_;refine AllReadyH.cons rfl (fun K hK=>?_) AllReadyH.nil;rw[if_pos (by rfl)];go_simp;refine (zdh D j u ek w8 HC5.out.1.hj.n HC5.out.1.hj.g HC5.out.2.2 (by have h1:=HH.out.2.1;have h2:=HC5.out.1.sz;omega)).mono ?_
 rintro _ w9 ⟨v,rfl,vA,vB,vS,hb9⟩;have HC6:=hid (show Nw w j nd ⟨at1,x1,upd s.set dn,s.gone⟩ Sta.zero w9∧Blk w9 B9 u.vs 38∧v.At w9∧v.same (zai j.n j.g u ek)=true from ⟨HC5.out.1.kept hb9,HC5.out.2.1.kept hb9,vA,vS⟩);have HUN:=hid (HC5.out.2.2.nd);refine hK.out _ _ ⟨HC6.out.1.bl,HC6.out.1.J,HC6.out.1.N,HC6.out.1.S,HC6.out.2.1⟩ (fun _=>?_);clear hK K hb9 vA vB vS HC5;refine wpAnyH_ready (rs:=[18]) (by kernel_rfl) (by simp) ?_;refine AllReadyH.cons rfl (fun K hK=>?_) AllReadyH.nil;rw[if_pos (by rfl)];go_simp;refine (zdi j.n j.g v (j.f.slots.ps dn) w9 HC6.out.1.hj.n HC6.out.1.hj.g HC6.out.2.2.1 (HC6.out.1.hj.f.slots.part HDN.out.2.1)).mono ?_;rintro _ w10 ⟨rfl,hb10⟩;have HBB:Hid (belB j.n j.g v (j.f.slots.ps dn)=belB j.n j.g (zai j.n j.g r ek) (j.f.slots.ps dn)):=zck HC6.out.2.2.1.nd (zbf HND.out) (zb4 _ _ _ HC6.out.2.2.2 (zch HUN.out HND.out HC4.out.2.2.2.2.1));have HC7:=hid (show Nw w j nd ⟨at1,x1,upd s.set dn,s.gone⟩ Sta.zero w10∧Blk w10 B9 u.vs 38 from ⟨HC6.out.1.kept hb10,HC6.out.2.1.kept hb10⟩);refine hK.out _ _ ⟨HC7.out.1.bl,HC7.out.1.J,HC7.out.1.N,HC7.out.1.S,HC7.out.2⟩ (fun _=>?_);clear hK K hb10 HC6;generalize belB j.n j.g v (j.f.slots.ps dn)=bb at *;refine wpAnyH_ready (rs:=[19]) (by kernel_rfl) (by simp) ?_;refine AllReadyH.cons rfl (fun K hK=>?_) AllReadyH.nil;rw[if_pos (by rfl)];refine zak 71 (.tmp 6) (.tmp 82) rfl rfl (w.heap.size+3) (⟨at1,x1,upd s.set dn,s.gone⟩:Sta).vs Sta.zero.vs (by kernel_rfl) (by kernel_rfl) (Sta.va_one _) HC7.out.1.Z (by rw[Sta.len,Sta.len]) (by simp only[List.size_toArray,Sta.len];kernel_rfl) ?_
 intro w11 W;have HC8:=hid (show Nw w j nd ⟨at1,x1,upd s.set dn,s.gone⟩ ⟨at1,x1,upd s.set dn,s.gone⟩ w11∧Blk w11 B9 u.vs 38 from ⟨HC7.out.1.wroteZ HJ.out.1 HJ.out.2 W,W.keep HC7.out.2 (by have:=HC4.out.2.2.2.2.2;omega)⟩)
 refine hK.out _ _ ⟨HC8.out.1.bl,HC8.out.1.J,HC8.out.1.N,HC8.out.1.S,HC8.out.2⟩ (fun _=>?_);clear hK K W HC7;refine wpAnyH_ready (rs:=[20]) (by kernel_rfl) (by simp) ?_;refine AllReadyH.cons rfl (fun K hK=>?_) AllReadyH.nil;rw[if_pos (by rfl)];go_simp;refine hK.out _ _ ⟨HC8.out.1.bl,HC8.out.1.J,HC8.out.1.N,HC8.out.1.S,HC8.out.2⟩ (fun _=>?_);clear hK K;refine wpAnyH_done (by kernel_rfl) ?_ _;refine⟨(fun c hc=>by cases hc),?_⟩;go_wp2;refine bodyPost_ret (v:=.tuple #[.agg (⟨at1,x1,upd s.set dn,s.gone⟩:Sta).vs.toArray,.bool bb]) (za1 Tryz.results56 rfl rfl HC8.out.1.Z.range) rfl ⟨_,_,rfl,?_,?_,HC8.out.1.bl⟩
 ·rw[HG.out,HDN.out.1,HBB.out];show _=Option.isSome (if belB j.n j.g (zai j.n j.g r ek) (j.f.slots.ps (Int.toNat dn))=true then _ else none)
  rw[Int.toNat_natCast];cases belB j.n j.g (zai j.n j.g r ek) (j.f.slots.ps dn) <;> rfl
 ·intro s1 hs1;rw[HG.out,HDN.out.1,Int.toNat_natCast] at hs1;split at hs1
  ·exact Option.some.inj hs1
  ·cases hs1
theorem zgu {P:Program}{ops:Array Oper}{rest:List Oper}{o:Oper}{a:Act}{w:World}{Q:Exit→Act→World→Prop}(hw:Region.wanted o (yielded ops a.tmps)=true)(h:o.wp P a w (wpList P ops Q rest) Q):wpList P ops Q (o :: rest) a w:=by
 unfold wpList;rw[if_pos hw];exact .inl h
theorem za0 {P:Program}{ops:Array Oper}{rest:List Oper}{op:Oper}{a:Act}{w:World}{Q:Exit→Act→World→Prop}(hw:Region.wanted op (yielded ops a.tmps)=true)(ty:TypeId)(x:Operand)(ho:op.op=.load ty x)
  (b o:Nat) (hx:a.eval x=.pointer (some ⟨b,o,none⟩)) (cs:List Value) (d:TypeDesc) (hc:w.rangeAt b o cs)
  (hu:P.underlying ty=some d) (hd:d.isRow=true) (hi:(P.info? ty).map (·.size)=some cs.length)
  (h:wpList P ops Q rest (a.put op.dst (.agg cs.toArray)) w):wpList P ops Q (op :: rest) a w :=
 zgu hw (wp_load_mid ty x ho b o hx cs d hc hu hd hi h)
theorem zej {ops:Array Oper}{rest:List Oper}{o:Oper}{a:Act}{w w':World}{v:Value}{Q:Exit→Act→World→Prop}(hw:Region.wanted o (yielded ops a.tmps)=true)(t:TypeId)(n:Nat)(parts:Array (Nat × Operand))(ho:o.op=.buildSlice t n parts)(vals:Array (Nat × Value))(hv:(parts.map fun (i,x)=>(i,a.eval x))=vals)
  (hs:(Instr.buildSlice t n vals).run Tryz.prog w=.ok v w') (h:wpList Tryz.prog ops Q rest (a.put o.dst v) w'):wpList Tryz.prog ops Q (o :: rest) a w:=by
 subst hv;refine zgu hw ?_;unfold Oper.wp execOp;simp only[ho,Sem.run_bind,hs,Result.andThen_ok,Sem.run_pure];exact h
structure Mj (w:World)(j:Jd)(nd:Nd)(u:World):Prop where
 bl:Below w.heap.size w u
 hj:j.At u
 J:Blk u w.heap.size j.vs 48
 N:Blk u (w.heap.size+1) nd.vs 65
theorem Mj.kept {w:World}{j:Jd}{nd:Nd}{u u':World}(h:Mj w j nd u)(hb:Below u.heap.size u u'):Mj w j nd u' :=
 ⟨Below.next h.bl hb,h.hj.kept hb,h.J.kept hb,h.N.kept hb⟩
theorem mj_new (w:World)(j:Jd)(nd:Nd)(hj:j.At w):Mj w j nd ((w.alloc (.cells j.va 48)).alloc (.cells nd.va 65)):=by
 have H:=zar [.cells j.va 48,.cells nd.va 65] w;have B0:=zap [.cells j.va 48,.cells nd.va 65] w;simp only[List.foldl] at H B0;exact⟨B0,hj.kept B0,H 0 (by simp),H 1 (by simp)⟩
theorem zly (j:Jd)(nd:Nd)(w:World)(hj:j.At w)(ha:0≤nd.h.a)(ha1:nd.h.a<j.f.slots.len) :
  Calls Tryz.prog 86 #[.agg j.va,.agg nd.va] w fun e w'=>e=.returned (.bool (j.tells nd))∧Below w.heap.size w w':=by
 have HI:=hid (mj_new w j nd hj);have HH:=hid (show 0≤nd.h.a∧nd.h.a<j.f.slots.len from ⟨ha,ha1⟩);have c2:=HI.out.N.cell 2 (v:=.int .i64 nd.h.a) rfl;clear hj ha ha1;go_enter Tryz.func86,Tryz.ntmps86
 go_upto_region 1 with fail
 generalize ((w.alloc (.cells j.va 48)).alloc (.cells nd.va 65))=w1 at *;have bJ:=HI.out.J;have bN:=HI.out.N;go_wp2_with (first | (refine wpList_load_mid rfl 48 (.tmp 2) rfl w.heap.size 0 (by kernel_rfl) j.vs _ bJ.range Tryz.underlying48 rfl (by kernel_rfl) ?_) | (refine wpList_load_mid rfl 65 (.tmp 3) rfl (w.heap.size+1) 0 (by kernel_rfl) nd.vs _ bN.range Tryz.underlying65 rfl (by kernel_rfl) ?_))
 refine (zbk 0 j nd nd.h.a w1 HI.out.hj (by omega) HH.out.1 HH.out.2).mono ?_;rintro _ w2 ⟨u,rfl,uA,uB,uS,hb⟩;have HI2:=hid (HI.out.kept hb);have HE:Hid (j.tells nd=((u.k==1)&&(leqB j.n j.g u.l nd.h.n&&leqB j.n j.g j.f.heap nd.h.n))):=by show _=_;unfold Jd.tells;rw[←zdn uS,←zee uS]
 clear HI c2 bJ bN hb uA uB uS;have hN:=zac w2 (.cells u.vs.toArray 38);have HB:=hid (show Mj w j nd (w2.alloc (.cells u.vs.toArray 38))∧Blk (w2.alloc (.cells u.vs.toArray 38)) w2.heap.size u.vs 38 from ⟨HI2.out.kept hN,Blk.new w2 _ _⟩);clear hN HI2;go_upto_region 2 with (refine zao rfl rfl 38 rfl (.tmp 5) (.tmp 10) rfl zTv (alloc_ty _) rfl u.vs.toArray (by kernel_rfl) (by kernel_rfl) rfl (by kernel_rfl) (by simpa using u.vs_one) ?_)
 generalize (w2.alloc (.cells u.vs.toArray 38))=w3 at *;generalize w2.heap.size=B at *;have x0:=HB.out.2.cell 0 (v:=.int .i64 u.k) rfl;cases hq:(u.k==1)
 ·have HF:Hid (j.tells nd=false):=by show _=_;rw[HE.out,hq];rfl
  go_wp2;go_ret;exact⟨zab HF.out.symm,HB.out.1.bl⟩
 ·have HF:Hid (j.tells nd=([u.l,j.f.heap].all fun a=>leqB j.n j.g a nd.h.n)):=by show _=_;rw[HE.out,hq];simp
  have x1:=HB.out.2.cell 1 (v:=.int .i64 u.l) rfl;have c4:=HB.out.1.N.cell 4 (v:=.int .i64 nd.h.n) rfl;have c15:=HB.out.1.J.cell 15 (v:=.int .i64 j.f.heap) rfl;have bJ:=HB.out.1.J;have hr:=zg8 u.l j.f.heap w3;have hb:=zac w3 (.cells #[.int .i64 u.l,.int .i64 j.f.heap] 3);have hL:=IAt.blk (l:=[u.l,j.f.heap]) (Blk.new w3 [.int .i64 u.l,.int .i64 j.f.heap] 3) (by simp);have HL:=hid (ze4 j nd.h.n [u.l,j.f.heap] _ _ (HB.out.1.hj.n.kept hb) (HB.out.1.hj.g.kept hb) hL);have HX:=hid (Below.next HB.out.1.bl hb);clear hb hL;go_wp2_with (first | (refine za0 (by kernel_rfl) 48 (.tmp 2) rfl w.heap.size 0 (by kernel_rfl) j.vs _ bJ.range Tryz.underlying48 rfl (by kernel_rfl) ?_) | (refine zej (by kernel_rfl) 63 2 #[(0,.tmp 19),(1,.tmp 22)] rfl #[(0,.int .i64 u.l),(1,.int .i64 j.f.heap)] rfl hr ?_))
  refine HL.out.mono ?_;rintro _ w4 ⟨rfl,hb4⟩;clear x0 x1 c4 c15 bJ hr HL;rw[←HF.out];go_wp2;go_ret;exact⟨rfl,Below.next HX.out hb4⟩
theorem zos {b:Bool}{s:Sta}{w w':World}(hb:Below w.heap.size w w'):zhc (if b=true then some s else none) w (.returned (.tuple #[.agg s.vs.toArray,.bool b])) w':=by
 refine⟨s,b,rfl,?_,?_,hb⟩
 ·cases b <;> rfl
 ·intro s1 h;cases b
  ·cases h
  ·exact Option.some.inj h
theorem zl9 (j:Jd)(nd:Nd)(s:Sta)(w:World)(hj:j.At w)(hn:nd.At w)(hop:nd.h.op=15)(b:Bool)(o:Option Sta)(ho:o=if b=true then some s else none)(hc:∀u,Below w.heap.size w u→Calls Tryz.prog 86 #[.agg j.vs.toArray,.agg nd.vs.toArray] u fun e w'=>e=.returned (.bool b)∧Below u.heap.size u w'):zcp o j nd s w:=by
 unfold zcp;have HO:=hid ho;clear ho;have HI:=hid (zfl w j nd s hj hn);have c0:=HI.out.N.cell 0 (v:=.int .i64 nd.h.op) rfl;rw[hop] at c0;unfold nwW at HI c0;have HJ:=hid (show j.At w∧nd.At w from ⟨hj,hn⟩);have HP:=hid hc;clear hop hj hn hc;go_enter Tryz.func56,Tryz.ntmps56
 go_upto_region 1 with (refine zbd rfl rfl ?_)
 generalize ((((w.alloc (.cells j.va 48)).alloc (.cells nd.va 65)).alloc (.cells s.va 71)).alloc (.cells Sta.zero.va 71))=w1 at *;go_upto_region 5 with fail
 clear c0;have hC0:∀q,(∃x:Gr w1,q=x.w)→q.rangeAt w.heap.size 0 j.vs:=by rintro _ ⟨x,rfl⟩;exact (HI.out.J.kept x.bl).range
 have hC1:∀q,(∃x:Gr w1,q=x.w)→q.rangeAt (w.heap.size+1) 0 nd.vs:=by rintro _ ⟨x,rfl⟩;exact (HI.out.N.kept x.bl).range
 have hC2:∀q,(∃x:Gr w1,q=x.w)→q.rangeAt (w.heap.size+2) 0 s.vs:=by rintro _ ⟨x,rfl⟩;exact (HI.out.S.kept x.bl).range
 have HBt:∀(x:Gr w1),Calls Tryz.prog 86 #[.agg j.vs.toArray,.agg nd.vs.toArray] x.w fun e w'=>e=.returned (.bool b)∧Below x.w.heap.size x.w w':=fun x=>HP.out x.w (Below.next HI.out.bl x.bl);have hNE:Nonempty (Gr w1):=⟨⟨_,Below.refl _ _⟩⟩;refine zah 4 (by kernel_rfl) (by kernel_rfl) ?_;simp only[List.take,List.drop];go_big_quiet_want;refine zaa 71 (.tmp 5) rfl _ 0 (by kernel_rfl) s.vs _ hC2 Tryz.underlying71 rfl (by rw[Sta.len];kernel_rfl) ?_
 simp only[Act.put,zA,zB,zC];go_big_quiet_on;go_big_quiet_want;refine zaa 48 (.tmp 3) rfl _ 0 (by kernel_rfl) j.vs _ hC0 Tryz.underlying48 rfl (by kernel_rfl) ?_;simp only[Act.put,zA,zB,zC];go_big_quiet_on;go_big_quiet_want;refine zaa 65 (.tmp 4) rfl _ 0 (by kernel_rfl) nd.vs _ hC1 Tryz.underlying65 rfl (by kernel_rfl) ?_;simp only[Act.put,zA,zB,zC];go_big_quiet_on;go_big_quiet_step ((go_at_call 86;exact Calls.gr _ (HBt _)))
 refine wpQuiet_nil ?_;rintro w4 ⟨x4,rfl⟩;have B5:=x4.bl;generalize x4.w=w4 at B5 ⊢;have HC:=hid (HI.out.kept B5);have bZ:=HC.out.Z;clear x4 B5 hC0 hC1 hC2 HBt hNE HI HP;go_wp2_with (refine zae rfl rfl 71 (.tmp 6) (.tmp 21) rfl (w.heap.size+3) s.vs (by kernel_rfl) (by kernel_rfl) (Sta.va_one _) bZ (by rw[Sta.len,Sta.len]) (by simp only[List.size_toArray,Sta.len];kernel_rfl) ?_;intro w5 W);refine bodyPost_ret (v:=.tuple #[.agg s.vs.toArray,.bool b]) (za1 Tryz.results56 rfl rfl W.blk.range) rfl ?_;rw[HO.out];exact zos (W.below (by omega) HC.out.bl)
def wkV (n:Strs)(g:Grid)(s:Fl)(f:Fc)(ok:Bool):List Value:=[.slice n.ao n.len n.cap,.slice g.ao g.len g.cap,.slice s.ao s.len s.cap,.int .i64 f.param.k,.int .i64 f.param.l,.slice f.param.ao f.param.len f.param.cap,.int .i64 f.param.h,.int .i64 f.param.e,.int .i64 f.result.k,.int .i64 f.result.l,.slice f.result.ao f.result.len f.result.cap,.int .i64 f.result.h,.int .i64 f.result.e,.slice f.caps.ao f.caps.len f.caps.cap,.int .i64 f.heap,.int .i64 f.exc,.slice f.slots.ao f.slots.len f.slots.cap,.slice f.body.ao f.body.len f.body.cap,.int .i64 f.out,.bool ok]
theorem zcx (n:Strs)(g:Grid)(s:Fl)(f:Fc)(ok:Bool)(p:Nat)(a b:Int)(w:World)(hp:Blk w p (wkV n g s f ok) 77)(hn:n.At w)(hg:g.At w):Calls Tryz.prog 60 #[.pointer (some ⟨p,0,none⟩),.int .i64 a,.int .i64 b] w fun e w'=>e=.returned (.bool (leqB n g a b))∧Below w.heap.size w w':=by
 have c0:=hp.cell 0 (v:=.slice n.ao n.len n.cap) rfl;have c1:=hp.cell 1 (v:=.slice g.ao g.len g.cap) rfl;have h:=zjo n g a b w hn hg;clear hp;go_enter Tryz.func60,Tryz.ntmps60
 go_wp2_with fail
 refine h.mono ?_;rintro _ w1 ⟨rfl,hb1⟩;go_wp2;go_ret;exact⟨rfl,hb1⟩
theorem zbu (n:Strs)(g:Grid)(s:Fl)(f:Fc)(ok:Bool)(p:Nat)(a b:Int)(w:World)(hp:Blk w p (wkV n g s f ok) 77)(hn:n.At w)(hg:g.At w):Calls Tryz.prog 102 #[.pointer (some ⟨p,0,none⟩),.int .i64 a,.int .i64 b] w fun e w'=>e=.returned (.int .i64 (zad n g a b))∧Below w.heap.size w w':=by
 have c0:=hp.cell 0 (v:=.slice n.ao n.len n.cap) rfl;have c1:=hp.cell 1 (v:=.slice g.ao g.len g.cap) rfl;have h:=ztf n g a b w hn hg;clear hp;go_enter Tryz.func102,Tryz.ntmps102
 go_wp2_with fail
 refine h.mono ?_;rintro _ w1 ⟨rfl,hb1⟩;go_wp2;go_ret;exact⟨rfl,hb1⟩
theorem Blk.setR {w:World}{B:Nat}{c:List Value}{t:TypeId}(h:Blk w B c t)(i:Nat)(v:Value):Blk (w.setCell ⟨B,i,none⟩ v) B (c.set i v) t:=by
 unfold Blk at h ⊢;simp[World.setCell,Array.getElem?_modify,h]
theorem WroteB.cellR {w:World}{B:Nat}{c:List Value}{t:TypeId}(h:Blk w B c t)(i:Nat)(v:Value):WroteB w (w.setCell ⟨B,i,none⟩ v) B (c.set i v) t :=
 ⟨h.setR i v,fun b hb=>Below.heap_setCell _ _ _ _ hb,by simp[World.setCell],fun hB hb=>hb.setCell hB v⟩
theorem za8 (n:Strs)(g:Grid)(s:Fl)(f:Fc)(ok b:Bool)(p:Nat)(w:World)(hp:Blk w p (wkV n g s f ok) 77):Calls Tryz.prog 59 #[.pointer (some ⟨p,0,none⟩),.bool b] w fun e w'=>e=.returned (.tuple #[])∧WroteB w w' p (wkV n g s f (ok&&b)) 77:=by
 have c0:=hp.cell 19 (v:=.bool ok) rfl;have f0:w.frozen? ⟨p,19,none⟩=false:=hp.frozen 19;have HW:Hid (WroteB w (w.setCell ⟨p,19,none⟩ (.bool (ok&&b))) p (wkV n g s f (ok&&b)) 77):=WroteB.cellR hp 19 (.bool (ok&&b));clear hp;cases ok
 all_goals
  go_enter Tryz.func59,Tryz.ntmps59
  go_wp2;go_end0;exact⟨rfl,HW.out⟩
structure Foot (S:Nat→Prop)(w w':World):Prop where
 os:w'.os=w.os
 tape:w'.tape=w.tape
 output:w'.output=w.output
 size:w.heap.size≤w'.heap.size
 block:∀k,k<w.heap.size→¬S k→w'.heap[k]?=w.heap[k]?
theorem Foot.refl (S:Nat→Prop)(w:World):Foot S w w:=⟨rfl,rfl,rfl,Nat.le_refl _,fun _ _ _=>rfl⟩
theorem Foot.next {S S':Nat→Prop}{a b c:World}(h:Foot S a b)(k:Foot S' b c)(hs:∀x,x<a.heap.size→S' x→S x):Foot S a c :=
 ⟨k.os.trans h.os,k.tape.trans h.tape,k.output.trans h.output,Nat.le_trans h.size k.size,fun i hi hn=>(k.block i (Nat.lt_of_lt_of_le hi h.size) (fun x=>hn (hs i hi x))).trans (h.block i hi hn)⟩
theorem Foot.trans {S:Nat→Prop}{a b c:World}(h:Foot S a b)(k:Foot S b c):Foot S a c:=h.next k fun _ _ x=>x
theorem Foot.of_below {S:Nat→Prop}{w w':World}(h:Below w.heap.size w w'):Foot S w w':=⟨h.os,h.tape,h.output,h.size,fun k hk _=>h.block k hk⟩
theorem Foot.blk {S:Nat→Prop}{w w':World}{B:Nat}{c:List Value}{t:TypeId}(h:Foot S w w')(hb:Blk w B c t)(hn:¬S B):Blk w' B c t:=by unfold Blk;rw[h.block B hb.lt hn];exact hb
theorem Blk.ne {w:World}{a b:Nat}{c d:List Value}{t u:TypeId}(h:Blk w a c t)(k:Blk w b d u)(ht:t≠u):a≠b:=by
 intro e;subst e;unfold Blk at h k;rw[h] at k
 injection k with k
 injection k with _ k
 exact ht k
def zda (f:Nat→Bool)(m:Nat):List Value:=(List.range m).map fun i=>.bool (f i)
theorem bitsV_len (f:Nat→Bool)(m:Nat):(zda f m).length=m:=by simp[zda]
theorem zew (f:Nat→Bool){m i:Nat}(h:i<m)(ys:List Value):(zda f m++ys)[i]?=some (.bool (f i)):=by
 rw[List.getElem?_append_left (by rw[bitsV_len];exact h)]
 simp[zda,h]
theorem zru (f:Nat→Bool){m i:Nat}(h:i<m)(b:Bool)(ys:List Value):(zda f m++ys).set i (.bool b)=zda (fun k=>if k=i then b else f k) m++ys:=by
 apply List.ext_getElem?
 intro k;rw[List.getElem?_set];by_cases e:i=k
 ·subst e;rw[if_pos rfl,if_pos (by simp[bitsV_len];omega),zew _ h]
  simp
 ·rw[if_neg e];by_cases hk:k<m
  ·rw[zew _ hk,zew _ hk,if_neg (fun e'=>e e'.symm)]
  ·rw[List.getElem?_append_right (by rw[bitsV_len];omega),List.getElem?_append_right (by rw[bitsV_len];omega),bitsV_len,bitsV_len]
structure Rst where
 at_:Int
 x:Int
 q:Nat
 m:Nat
 cap:Nat
 set:Nat→Bool
 here:Bool
def Rst.vs (r:Rst):List Value:=[.int .i64 r.at_,.int .i64 r.x,.slice (some ⟨r.q,0,none⟩) r.m r.cap,.bool r.here]
structure Rx (w0:World)(j:Jd)(v p:Nat)(ok:Bool)(r:Rst)(u:World):Prop where
 bl:Below w0.heap.size w0 u
 W:Blk u v (wkV j.n j.g j.fns j.f ok) 77
 S:Blk u p r.vs 80
 R:∃ys,Blk u r.q (zda r.set r.m++ys) 4
 lv:w0.heap.size≤v
 lp:w0.heap.size≤p
 lq:w0.heap.size≤r.q
def Tri (v p q:Nat):Nat→Prop:=fun b=>b=v∨b=p∨b=q
theorem Rx.kept {w0:World}{j:Jd}{v p:Nat}{ok:Bool}{r:Rst}{u u':World}(h:Rx w0 j v p ok r u)(hb:Below u.heap.size u u'):Rx w0 j v p ok r u' :=
 ⟨Below.next h.bl hb,h.W.kept hb,h.S.kept hb,by obtain⟨ys,hy⟩:=h.R;exact⟨ys,hy.kept hb⟩,h.lv,h.lp,h.lq⟩
theorem Rx.nvp {w0:World}{j:Jd}{v p:Nat}{ok:Bool}{r:Rst}{u:World}(h:Rx w0 j v p ok r u):v≠p:=h.W.ne h.S (by decide)
theorem Rx.nvq {w0:World}{j:Jd}{v p:Nat}{ok:Bool}{r:Rst}{u:World}(h:Rx w0 j v p ok r u):v≠r.q:=by obtain⟨ys,hy⟩:=h.R;exact h.W.ne hy (by decide)
theorem Rx.npq {w0:World}{j:Jd}{v p:Nat}{ok:Bool}{r:Rst}{u:World}(h:Rx w0 j v p ok r u):p≠r.q:=by obtain⟨ys,hy⟩:=h.R;exact h.S.ne hy (by decide)
theorem Rx.wv {w0:World}{j:Jd}{v p:Nat}{ok ok':Bool}{r:Rst}{u u':World}(h:Rx w0 j v p ok r u)(W:WroteB u u' v (wkV j.n j.g j.fns j.f ok') 77):Rx w0 j v p ok' r u' :=
 ⟨W.below h.lv h.bl,W.blk,W.keep h.S (fun e=>h.nvp e.symm),by obtain⟨ys,hy⟩:=h.R;exact⟨ys,W.keep hy (fun e=>h.nvq e.symm)⟩,h.lv,h.lp,h.lq⟩
theorem Rx.wp {w0:World}{j:Jd}{v p:Nat}{ok:Bool}{r:Rst}(r':Rst){u u':World}(h:Rx w0 j v p ok r u)(hq:r'.q=r.q)(hm:r'.m=r.m)(hs:r'.set=r.set)(W:WroteB u u' p r'.vs 80):Rx w0 j v p ok r' u' :=
 ⟨W.below h.lp h.bl,W.keep h.W h.nvp,W.blk,by obtain⟨ys,hy⟩:=h.R;rw[hq,hm,hs];exact⟨ys,W.keep hy (fun e=>h.npq e.symm)⟩,h.lv,h.lp,by rw[hq];exact h.lq⟩
theorem zd8 {S:Nat→Prop}{w w':World}{B:Nat}{c:List Value}{t:TypeId}(W:WroteB w w' B c t)(hS:S B):Foot S w w':=by
 have h:=W.below (B0:=0) (a:=w) (Nat.zero_le _) (Below.refl _ _);exact⟨h.os,h.tape,h.output,h.size,fun k _ hn=>W.other k (fun e=>hn (e ▸ hS))⟩
structure Rg (w0:World)(j:Jd)(v p:Nat)(ok:Bool)(r:Rst)(w w':World):Prop where
 x:Rx w0 j v p ok r w'
 f:Foot (Tri v p r.q) w w'
theorem Rg.of {w0:World}{j:Jd}{v p:Nat}{ok:Bool}{r:Rst}{w w':World}(h:Rx w0 j v p ok r w)(hb:Below w.heap.size w w'):Rg w0 j v p ok r w w':=⟨h.kept hb,Foot.of_below hb⟩
theorem Rg.kept {w0:World}{j:Jd}{v p:Nat}{ok:Bool}{r:Rst}{w u u':World}(h:Rg w0 j v p ok r w u)(hb:Below u.heap.size u u'):Rg w0 j v p ok r w u':=⟨h.x.kept hb,h.f.trans (Foot.of_below hb)⟩
theorem Rg.trans {w0:World}{j:Jd}{v p:Nat}{ok ok':Bool}{r r':Rst}{w u u':World}(h:Rg w0 j v p ok r w u)(k:Rg w0 j v p ok' r' u u')(hq:r'.q=r.q):Rg w0 j v p ok' r' w u':=⟨k.x,by have:=h.f.trans (by have:=k.f;rw[hq] at this;exact this);rw[hq];exact this⟩
theorem Rg.wv {w0:World}{j:Jd}{v p:Nat}{ok ok':Bool}{r:Rst}{w u u':World}(h:Rg w0 j v p ok r w u)(W:WroteB u u' v (wkV j.n j.g j.fns j.f ok') 77):Rg w0 j v p ok' r w u':=⟨h.x.wv W,h.f.trans (zd8 W (Or.inl rfl))⟩
theorem Rg.wp {w0:World}{j:Jd}{v p:Nat}{ok:Bool}{r:Rst}(r':Rst){w u u':World}(h:Rg w0 j v p ok r w u)(hq:r'.q=r.q)(hm:r'.m=r.m)(hs:r'.set=r.set)(W:WroteB u u' p r'.vs 80):Rg w0 j v p ok r' w u':=⟨h.x.wp r' hq hm hs W,by rw[hq];exact h.f.trans (zd8 W (Or.inr (Or.inl rfl)))⟩
theorem Rx.lts {w0:World}{j:Jd}{v p:Nat}{ok:Bool}{r:Rst}{u:World}(h:Rx w0 j v p ok r u):v<u.heap.size∧p<u.heap.size∧r.q<u.heap.size∧w0.heap.size≤u.heap.size:=⟨h.W.lt,h.S.lt,by obtain⟨ys,hy⟩:=h.R;exact hy.lt,h.bl.size⟩
theorem zd0 {n:Strs}{g:Grid}{t:Ty}{a:Int}{w:World}(h:t.At w):(zai n g t a).At w:=by
 unfold zai;split
 ·exact zlc h
 ·exact zay _ _ _
theorem zq9 {n:Strs}{g:Grid}{t:Ty}{a:Int}{Q:Nat→Prop}(h:t.Blk Q):(zai n g t a).Blk Q:=by
 unfold zai;split
 ·exact zmv h
 ·exact⟨fun h=>absurd h (Nat.lt_irrefl _),fun _ h=>absurd h (Nat.not_lt_zero _)⟩
theorem Rx.other {w0:World}{j:Jd}{v p:Nat}{ok:Bool}{r:Rst}{u u':World}{B:Nat}{c:List Value}{t:TypeId}(h:Rx w0 j v p ok r u)(W:WroteB u u' B c t)(h1:v≠B)(h2:p≠B)(h3:r.q≠B)(h0:w0.heap.size≤B):Rx w0 j v p ok r u' :=
 ⟨W.below h0 h.bl,W.keep h.W h1,W.keep h.S h2,by obtain⟨ys,hy⟩:=h.R;exact⟨ys,W.keep hy h3⟩,h.lv,h.lp,h.lq⟩
theorem Rg.other {w0:World}{j:Jd}{v p:Nat}{ok:Bool}{r:Rst}{w u u':World}{B:Nat}{c:List Value}{t:TypeId}(h:Rg w0 j v p ok r w u)(W:WroteB u u' B c t)(h1:v≠B)(h2:p≠B)(h3:r.q≠B)(h4:w.heap.size≤B)(h0:w0.heap.size≤B):Rg w0 j v p ok r w u' :=
 ⟨h.x.other W h1 h2 h3 h0,h.f.next (zd8 (S:=fun b=>b=B) W rfl) (fun x hx e=>absurd hx (by rw[e];omega))⟩
structure Dt (w0:World)(j:Jd):Prop where
 n:j.n.At w0
 g:j.g.At w0
 fns:j.fns.At w0
 f:j.f.At w0
theorem zki (p:Nat)(t:Ty)(k:Int)(w:World)(hk:t.k=k):Calls Tryz.prog 98 #[.pointer (some ⟨p,0,none⟩),.agg t.vs.toArray,.int .i64 k] w fun e w'=>e=.returned (.agg t.vs.toArray)∧Below w.heap.size w w':=by
 subst hk;have H:=zar [.cells t.vs.toArray 38,.cells #[.int .i64 0,.int .i64 0,.slice none 0 0,.int .i64 0,.int .i64 0] 38] w;have B0:=zap [.cells t.vs.toArray 38,.cells #[.int .i64 0,.int .i64 0,.slice none 0 0,.int .i64 0,.int .i64 0] 38] w;simp only[List.foldl] at H B0;have bJ:Blk _ w.heap.size t.vs 38:=H 0 (by simp);have bZ:Blk _ (w.heap.size+1) [.int .i64 0,.int .i64 0,.slice none 0 0,.int .i64 0,.int .i64 0] 38:=H 1 (by simp);have c0:=bJ.cell 0 (v:=.int .i64 t.k) rfl;have c1:=bJ.cell 1 (v:=.int .i64 t.l) rfl;have c2:=bJ.cell 2 (v:=.slice t.ao t.len t.cap) rfl;have c3:=bJ.cell 3 (v:=.int .i64 t.h) rfl;have c4:=bJ.cell 4 (v:=.int .i64 t.e) rfl;have q:(t.k != t.k)=false:=by simp
 clear H bJ;go_enter Tryz.func98,Tryz.ntmps98
 go_wp2_with (refine zae rfl rfl 38 (.tmp 6) (.tmp 16) rfl (w.heap.size+1) t.vs (by kernel_rfl) (by kernel_rfl) rfl bZ rfl (by kernel_rfl) ?_;intro w2 W2);have z0:=W2.blk.cell 0 rfl;have z1:=W2.blk.cell 1 rfl;have z2:=W2.blk.cell 2 rfl;have z3:=W2.blk.cell 3 rfl;have z4:=W2.blk.cell 4 rfl;go_wp2;exact bodyPost_ret (v:=.agg t.vs.toArray) (by simp[results,Tryz.results98,go_sem,z0,z1,z2,z3,z4,Ty.vs]) rfl ⟨rfl,W2.below (by omega) B0⟩
end
end Go.Proofs.YtgioppfoceddfaaGreat
