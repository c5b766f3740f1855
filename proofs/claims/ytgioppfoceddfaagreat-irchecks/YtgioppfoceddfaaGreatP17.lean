import Derived.Test.YtgioppfoceddfaaGreatP14
import Derived.Test.YtgioppfoceddfaaGreatP16
import Derived.Deep.QuietTactic
import Derived.BigQuiet
import Derived.Test.YtgioppfoceddfaaGreatP10
set_option maxRecDepth 100000
set_option maxHeartbeats 32000000
namespace Go.Proofs.YtgioppfoceddfaaGreat
section
open Go Go.RowKit
theorem zgc (x:Int)(w:World):(Instr.buildSlice 63 1 #[(0,.int .i64 x)]).run Tryz.prog w=.ok (.slice (some ⟨w.heap.size,0,none⟩) 1 1) (w.alloc (.cells #[.int .i64 x] 3)):=by
 obtain⟨i0,hi,hz0,hz1,hz2⟩:=info_parts Tryz.infoInt;simp[Instr.buildSlice,run_underlying Tryz.underlying63,sizeOf,typeInfo,hi,hz0,hz1,zeroValue,newRow,Value.cells,Instr.fill]
 kernel_rfl
theorem zg8 (x y:Int)(w:World):(Instr.buildSlice 63 2 #[(0,.int .i64 x),(1,.int .i64 y)]).run Tryz.prog w=.ok (.slice (some ⟨w.heap.size,0,none⟩) 2 2) (w.alloc (.cells #[.int .i64 x,.int .i64 y] 3)):=by
 obtain⟨i0,hi,hz0,hz1,hz2⟩:=info_parts Tryz.infoInt;simp[Instr.buildSlice,run_underlying Tryz.underlying63,sizeOf,typeInfo,hi,hz0,hz1,zeroValue,newRow,Value.cells,Instr.fill]
 kernel_rfl
theorem rds1 {h:Hd}(e:h.op=3∨h.op=5∨h.op=7∨h.op=8∨h.op=12∨h.op=13∨h.op=15∨h.op=16∨h.op=18):h.rds=[h.a]:=by unfold Hd.rds;rw[if_pos e]
theorem rds2 {h:Hd}(e:h.op=4∨h.op=6∨h.op=11∨h.op=14):h.rds=[h.a,h.b]:=by unfold Hd.rds;rw[if_neg (by omega),if_pos e]
theorem rds9 {h:Hd}(e:h.op=9):h.rds=(List.range h.ar.len).map h.ar.f:=by unfold Hd.rds;rw[if_neg (by omega),if_neg (by omega),if_pos e]
theorem rds0 {h:Hd}(e:¬(h.op=3∨h.op=5∨h.op=7∨h.op=8∨h.op=12∨h.op=13∨h.op=15∨h.op=16∨h.op=18))(e2:¬(h.op=4∨h.op=6∨h.op=11∨h.op=14))(e3:¬h.op=9):h.rds=[]:=by unfold Hd.rds;rw[if_neg e,if_neg e2,if_neg e3]
theorem beqI {a b:Int}(h:¬a=b):(a==b)=false:=beq_eq_false_iff_ne.2 h
theorem zlk (nd:Nd)(w:World)(hA:nd.At w):Calls Tryz.prog 55 #[.agg nd.va] w fun e w'=>∃v,e=.returned v∧IAt w' v nd.h.rds∧Below w.heap.size w w':=by
 have B0:=zac w (.cells nd.va 65);have bN:Blk (w.alloc (.cells nd.va 65)) w.heap.size nd.vs 65:=Blk.new w _ _;have HA:Hid (nd.h.ar.At (w.alloc (.cells nd.va 65))∧Below w.heap.size w (w.alloc (.cells nd.va 65))):=⟨(hA.kept B0).ar,B0⟩;have c0:=bN.cell 0 (v:=.int .i64 nd.h.op) rfl;have c2:=bN.cell 2 (v:=.int .i64 nd.h.a) rfl;have c3:=bN.cell 3 (v:=.int .i64 nd.h.b) rfl;have c11:=bN.cell 11 (v:=.slice nd.h.ar.ao nd.h.ar.len nd.h.ar.cap) rfl;clear bN B0 hA;go_enter Tryz.func55,Tryz.ntmps55
 go_upto_region 1 with fail
 generalize (w.alloc (.cells nd.va 65))=w1 at *;by_cases h1:nd.h.op=3∨nd.h.op=5∨nd.h.op=7∨nd.h.op=8∨nd.h.op=12∨nd.h.op=13∨nd.h.op=15∨nd.h.op=16∨nd.h.op=18
 ·have HR:Hid (nd.h.rds=[nd.h.a]):=rds1 h1;generalize nd.h.op=op at h1 c0;have hr:=zgc nd.h.a w1;have K1:Hid (IAt (w1.alloc (.cells #[.int .i64 nd.h.a] 3)) (.slice (some ⟨w1.heap.size,0,none⟩) 1 1) [nd.h.a]∧Below w.heap.size w (w1.alloc (.cells #[.int .i64 nd.h.a] 3))):=⟨IAt.blk (l:=[nd.h.a]) (Blk.new w1 [.int .i64 nd.h.a] 3) (by simp),Below.next HA.out.2 (zac _ _)⟩;rcases h1 with rfl | rfl | rfl | rfl | rfl | rfl | rfl | rfl | rfl
  all_goals
   go_wp2_with (refine zd4 rfl 63 1 #[(0,.tmp 16)] rfl #[(0,.int .i64 nd.h.a)] rfl hr ?_)
   go_ret;exact⟨_,rfl,by rw[HR.out];exact K1.out.1,K1.out.2⟩
 ·by_cases h2:nd.h.op=4∨nd.h.op=6∨nd.h.op=11∨nd.h.op=14
  ·have HR:Hid (nd.h.rds=[nd.h.a,nd.h.b]):=rds2 h2;clear h1;generalize nd.h.op=op at h2 c0;have hr:=zg8 nd.h.a nd.h.b w1;have K2:Hid (IAt (w1.alloc (.cells #[.int .i64 nd.h.a,.int .i64 nd.h.b] 3)) (.slice (some ⟨w1.heap.size,0,none⟩) 2 2) [nd.h.a,nd.h.b]∧Below w.heap.size w (w1.alloc (.cells #[.int .i64 nd.h.a,.int .i64 nd.h.b] 3))):=⟨IAt.blk (l:=[nd.h.a,nd.h.b]) (Blk.new w1 [.int .i64 nd.h.a,.int .i64 nd.h.b] 3) (by simp),Below.next HA.out.2 (zac _ _)⟩;rcases h2 with rfl | rfl | rfl | rfl
   all_goals
    go_wp2_with (refine zd4 rfl 63 2 #[(0,.tmp 24),(1,.tmp 26)] rfl #[(0,.int .i64 nd.h.a),(1,.int .i64 nd.h.b)] rfl hr ?_)
    go_ret;exact⟨_,rfl,by rw[HR.out];exact K2.out.1,K2.out.2⟩
  ·by_cases h3:nd.h.op=9
   ·have HR:Hid (nd.h.rds=(List.range nd.h.ar.len).map nd.h.ar.f):=rds9 h3;clear h1 h2;rw[h3] at c0;have K3:Hid (IAt w1 (.slice nd.h.ar.ao nd.h.ar.len nd.h.ar.cap) ((List.range nd.h.ar.len).map nd.h.ar.f)):=IAt.is HA.out.1;generalize nd.h.ar.ao=ao at *;generalize (List.range nd.h.ar.len).map nd.h.ar.f=l at *;generalize nd.h.ar.len=len at *;generalize nd.h.ar.cap=cap at *;clear h3;go_wp2;go_ret;exact⟨_,rfl,by rw[HR.out];exact K3.out,HA.out.2⟩
   ·have HR:Hid (nd.h.rds=[]):=rds0 h1 h2 h3;simp only[not_or] at h1 h2;generalize nd.h.op=op at h1 h2 h3 c0;have K3:Hid (IAt w1 (.slice none 0 0) []):=IAt.nil w1 0;have e3:=beqI h1.1;have e5:=beqI h1.2.1;have e7:=beqI h1.2.2.1;have e8:=beqI h1.2.2.2.1;have e12:=beqI h1.2.2.2.2.1;have e13:=beqI h1.2.2.2.2.2.1;have e15:=beqI h1.2.2.2.2.2.2.1;have e16:=beqI h1.2.2.2.2.2.2.2.1;have e18:=beqI h1.2.2.2.2.2.2.2.2;have e4:=beqI h2.1;have e6:=beqI h2.2.1;have e11:=beqI h2.2.2.1;have e14:=beqI h2.2.2.2;have e9:=beqI h3;clear h1 h2 h3;go_wp2;go_ret;exact⟨_,rfl,by rw[HR.out];exact K3.out,HA.out.2⟩
def slotsB (m:Nat)(l:List Int):Bool:=l.all fun i=>wthB i m
theorem zh9 (n:Strs)(g:Grid)(many:Int)(f:Fc)(l:List Int)(v:Value)(w:World)(hl:IAt w v l):Calls Tryz.prog 37 #[.agg (shV n g many f).toArray,v] w fun e w'=>e=.returned (.bool (slotsB f.slots.len l))∧Below w.heap.size w w':=by
 obtain⟨ao,b,o,cap,rfl,hnil,hbd,hcell⟩:=hl;have B0:=zac w (.cells (shV n g many f).toArray 55);have HI:Hid (Below w.heap.size w (w.alloc (.cells (shV n g many f).toArray 55))∧Blk (w.alloc (.cells (shV n g many f).toArray 55)) w.heap.size (shV n g many f) 55):=⟨B0,Blk.new w _ _⟩;have HC:Hid (∀i x,l[i]?=some x→w.cell? ⟨b,o+i,none⟩=some (.int .i64 x)):=hcell;clear B0 hcell;generalize hsv:shV n g many f=sv at *;have HV:Hid (sv[16]?=some (.slice f.slots.ao f.slots.len f.slots.cap)):=by show _=_;rw[←hsv];rfl
 clear hsv;go_enter Tryz.func37,Tryz.ntmps37
 go_wp2;go_loopw [9] (fun i wr=>∃k:Nat,k≤l.length∧i=.int .i64 k∧slotsB f.slots.len (l.take k)=true∧Below w.heap.size w wr∧Blk wr w.heap.size sv 55) (fun i _=>l.length - (intOf i).toNat)
 case atStart=>exact⟨0,Nat.zero_le _,rfl,by simp[slotsB],HI.out⟩
 case round =>
  clear HI;obtain⟨k,hk,rfl,hall,hb,bS⟩:=hrel;have HA:Hid (slotsB f.slots.len (l.take k)=true):=hall;have HI:Hid (Below w.heap.size w wr∧Blk wr w.heap.size sv 55):=⟨hb,bS⟩;clear hall hb;by_cases hlt:k<l.length
  ·have ij:(k:Int)<l.length:=by omega
   obtain⟨x,hx⟩:∃x,l[k]?=some x:=⟨_,List.getElem?_eq_getElem hlt⟩;have a0:=hnil (by omega);subst a0;have c0:=up HI.out.1 (HC.out k x hx);have HX:Hid (l[k]?=some x):=hx;have d0:=bS.cell 16 HV.out;clear bS hx;go_wp2_with fail
   refine (zfa x f.slots.len wr).mono ?_;rintro _ w1 ⟨rfl,hb1⟩;clear c0 d0;cases hq:wthB x f.slots.len
   ·go_wp2;go_ret;refine⟨zab ?_,Below.next HI.out.1 hb1⟩
    symm
    unfold slotsB;rw[List.all_eq_false];exact⟨x,List.mem_of_getElem? HX.out,by rw[hq];simp⟩
   ·go_wp2;go_roundw
    case rel=>exact⟨k+1,by omega,by go_num,by unfold slotsB;rw[List.take_add_one,HX.out];simp[hq];simpa [slotsB] using HA.out,Below.next HI.out.1 hb1,HI.out.2.kept hb1⟩
    case measure=>simp[intOf];omega
  ·have e2:k=l.length:=by omega
   subst e2;have d:¬(l.length:Int)<l.length:=by omega
   clear bS;go_wp2;go_ret;exact⟨zab (by have:=HA.out;rw[List.take_length] at this;exact this.symm),HI.out.1⟩
theorem zck {n:Strs}{g:Grid}{u r t:Ty}(hu:u.Nd)(hr:r.Nd)(h:u.same r=true):belB n g u t=belB n g r t:=by
 have e:=zfy (N:=n.len) u r hu hr h;have eo:u.ok n.len=r.ok n.len:=by unfold Ty.ok;rw[e.1,e.2]
 unfold belB;rw[eo];cases hF:zaf n g
 ·rfl
 cases hr':r.ok n.len
 ·rfl
 cases ht:t.ok n.len
 ·rfl
 have P:=po_of hF;have fu:Fd n.len u:=zfx (eo.trans hr');have fr:Fd n.len r:=zfx hr';have ft:Fd n.len t:=zfx ht;have sb:=zn7 P u r fu fr h;have key:u.bel g.B true t=true↔r.bel g.B true t=true:=⟨fun x=>(zgl P r u t fr fu ft).1 sb.2 x,fun x=>(zgl P u r t fu fr ft).1 sb.1 x⟩;rw[Bool.true_and,Bool.true_and];exact Bool.eq_iff_iff.2 key
theorem zll {n:Strs}{g:Grid}{u r t:Ty}(hu:u.Nd)(hr:r.Nd)(h:u.same r=true):belB n g t u=belB n g t r:=by
 have e:=zfy (N:=n.len) u r hu hr h;have eo:u.ok n.len=r.ok n.len:=by unfold Ty.ok;rw[e.1,e.2]
 unfold belB;rw[eo];cases hF:zaf n g
 ·rfl
 cases ht:t.ok n.len
 ·rfl
 cases hr':r.ok n.len
 ·rfl
 have P:=po_of hF;have fu:Fd n.len u:=zfx (eo.trans hr');have fr:Fd n.len r:=zfx hr';have ft:Fd n.len t:=zfx ht;have sb:=zn7 P u r fu fr h;have key:t.bel g.B true u=true↔t.bel g.B true r=true:=⟨fun x=>(zgl P t u r ft fu fr).1 x sb.1,fun x=>(zgl P t r u ft fr fu).1 x sb.2⟩;rw[Bool.true_and,Bool.true_and];exact Bool.eq_iff_iff.2 key
theorem zx4 {j:Int}:∀{t:Ty},t.Nd→(t.setL j).Nd
 | .dm,h=>h.elim
 | .mk _ _ _ _ _ _ _ _ _ _,h=>h
theorem zcm (k l:Int):(leafT k l).Nd:=(zay k l default).nd
theorem zbf {n:Strs}{g:Grid}{t:Ty}{a:Int}(h:t.Nd):(zai n g t a).Nd:=by
 unfold zai;split
 ·exact zx4 h
 ·exact zcm _ _
theorem zqc {j:Int}:∀{s t:Ty},s.Nd→t.Nd→s.same t=true→(s.setL j).same (t.setL j)=true
 | .dm,_,h,_,_=>h.elim
 | _,.dm,_,h,_=>h.elim
 | .mk _ _ _ _ _ _ _ _ _ _,.mk _ _ _ _ _ _ _ _ _ _,_,_,h=>by
  rw[zbb] at h ⊢;exact⟨⟨h.1.1,rfl,h.1.2.2⟩,h.2⟩
theorem zch {n:Strs}{g:Grid}{u r:Ty}{a:Int}(hu:u.Nd)(hr:r.Nd)(h:u.same r=true):(zai n g u a).same (zai n g r a)=true:=by
 have e:=zfy (N:=n.len) u r hu hr h;have eo:okB n g u=okB n g r:=by unfold okB Ty.ok;rw[e.1,e.2]
 have el:u.l=r.l:=((zbb u r).1 h).1.2.1;unfold zai;rw[eo,el];split
 ·exact zqc hu hr h
 ·exact same_refl _
theorem hid {p:Prop}(h:p):Hid p:=h
def zbh (D:Nat)(r:Ty)(w:World)(e:Ending)(w':World):Prop:=∃u:Ty,e=.returned (.agg u.vs.toArray)∧u.At w'∧u.Blk (fun b=>b<D∨w.heap.size≤b)∧u.same r=true∧Below w.heap.size w w'
theorem Ty.vs_one (t:Ty):t.vs.all (·.oneCell')=true:=by simp[Ty.vs,Value.oneCell']
def zTv:List Value:=[.int .i64 0,.int .i64 0,.slice none 0 0,.int .i64 0,.int .i64 0]
theorem zln (D:Nat)(n:Strs)(g:Grid)(t:Ty)(a:Int)(w:World)(hn:n.At w)(hg:g.At w)(ht:t.At w) :
  Calls Tryz.prog 94 #[.agg #[.slice n.ao n.len n.cap,.slice g.ao g.len g.cap],.agg t.vs.toArray,.int .i64 a] w (zbh D (zai n g t a) w) :=
 (ztw n g t a w hn hg ht).mono fun _ _ ⟨u,h1,h2,h3,h4,h5⟩=>⟨u,h1,h2,h3.mono (fun _ h=>Or.inr h),h4,h5⟩
theorem Ty.At.wrote {w w':World}{B D m:Nat}{c:List Value}{t:TypeId}{u:Ty}(h:u.At w)(hk:u.Blk (fun b=>b<D∨m≤b))(W:WroteB w w' B c t)(h1:D≤B)(h2:B<m):u.At w' :=
 Ty.At.agree (Q:=fun b=>b<D∨m≤b) (fun b hb=>W.other b (by omega)) h hk
theorem zdh (D:Nat)(j:Jd)(t:Ty)(a:Int)(w:World)(hn:j.n.At w)(hg:j.g.At w)(ht:t.At w)(hD:D≤w.heap.size):Calls Tryz.prog 58 #[.agg j.va,.agg t.vs.toArray,.int .i64 a] w (zbh D (zai j.n j.g t a) w):=by
 have H:=zar [.cells j.va 48,.cells t.vs.toArray 38,.cells zTv.toArray 38] w;have B0:=zap [.cells j.va 48,.cells t.vs.toArray 38,.cells zTv.toArray 38] w;have SZ:=za9 [.cells j.va 48,.cells t.vs.toArray 38,.cells zTv.toArray 38] w;simp only[List.foldl,List.length] at H B0 SZ;have bJ:Blk _ w.heap.size j.vs 48:=H 0 (by simp);have bT:Blk _ (w.heap.size+1) t.vs 38:=H 1 (by simp);have bZ:Blk _ (w.heap.size+2) zTv 38:=H 2 (by simp);clear H;have hR:=zln D j.n j.g t a _ (hn.kept B0) (hg.kept B0) (ht.kept B0);have a0:=bJ.cell 0 (v:=.slice j.n.ao j.n.len j.n.cap) rfl;have a1:=bJ.cell 1 (v:=.slice j.g.ao j.g.len j.g.cap) rfl;clear hn hg ht bJ;unfold zTv at hR B0 bT bZ a0 a1 SZ;have HZ:=hid SZ;clear SZ;go_enter Tryz.func58,Tryz.ntmps58
 go_wp2_with (refine wpList_load_mid rfl 38 (.tmp 4) rfl (w.heap.size+1) 0 rfl t.vs _ bT.range Tryz.underlying38 rfl (by kernel_rfl) ?_)
 refine hR.mono ?_;rintro _ w1 ⟨u,rfl,uA,uB,uS,hb1⟩;have bZ1:=bZ.kept hb1;have B1:=Below.next B0 hb1;have HU:Hid (u.At w1∧u.same (zai j.n j.g t a)=true∧u.Blk (fun b=>b<D∨w.heap.size+3≤b)):=⟨uA,uS,by rw[HZ.out] at uB;exact uB⟩
 clear hR uA uS uB hb1 B0 bZ bT a0 a1 HZ;go_wp2_with (refine zae rfl rfl 38 (.tmp 6) (.tmp 11) rfl (w.heap.size+2) u.vs (by kernel_rfl) (by kernel_rfl) u.vs_one bZ1 rfl (by kernel_rfl) ?_;intro w2 W2);have z0:=W2.blk.cell 0 (v:=.int .i64 u.k) rfl;have z1:=W2.blk.cell 1 (v:=.int .i64 u.l) rfl;have z2:=W2.blk.cell 2 (v:=.slice u.ao u.len u.cap) rfl;have z3:=W2.blk.cell 3 (v:=.int .i64 u.h) rfl;have z4:=W2.blk.cell 4 (v:=.int .i64 u.e) rfl;exact bodyPost_ret (v:=.agg u.vs.toArray) (by simp[results,Tryz.results58,go_sem,z0,z1,z2,z3,z4,Ty.vs]) rfl ⟨u,rfl,HU.out.1.wrote HU.out.2.2 W2 (by omega) (by omega),HU.out.2.2.mono (fun b h=>by omega),HU.out.2.1,W2.below (by omega) B1⟩
theorem C5.row {w:World}{b o:Nat}{t:Ty}(h:C5 w b o t):w.rangeAt b o t.vs:=fun j v hv=>by
 match j,hv with
 | 0,hv=>rw[←Option.some.inj hv];exact h.c0
 | 1,hv=>rw[←Option.some.inj hv];exact h.c1
 | 2,hv=>rw[←Option.some.inj hv];exact h.c2
 | 3,hv=>rw[←Option.some.inj hv];exact h.c3
 | 4,hv=>rw[←Option.some.inj hv];exact h.c4
 | _+5,hv=>simp[Ty.vs] at hv
theorem zaa {C:World→Prop}{K:Act→Prop}{a:Act}{o:Oper}(ty:TypeId)(x:Operand)(ho:o.op=.load ty x)(b oo:Nat)(hx:a.eval x=.pointer (some ⟨b,oo,none⟩))(cs:List Value)(d:TypeDesc)(hc:∀w,C w→w.rangeAt b oo cs)
  (hu:Tryz.prog.underlying ty=some d) (hd:d.isRow=true) (hi:(Tryz.prog.info? ty).map (·.size)=some cs.length) (h:K (a.put o.dst (.agg cs.toArray))):o.quiet Tryz.prog a C K:=by
 refine⟨.agg cs.toArray,fun w hC=>?_,h⟩;unfold Oper.quietAt execOp;simp only[ho,hx,Sem.run_bind,run_loadAt_mid w b oo ty cs d (hc w hC) hu hd hi,Result.andThen_ok,Sem.run_pure];exact⟨rfl,rfl⟩
theorem zbk (D:Nat)(j:Jd)(nd:Nd)(i:Int)(w:World)(hj:j.At w)(hD:D≤w.heap.size)(h0:0≤i)(h1:i<j.f.slots.len):Calls Tryz.prog 89 #[.agg j.va,.agg nd.va,.int .i64 i] w (zbh D (j.read nd i) w):=by
 obtain⟨k,rfl⟩:∃k:Nat,i=k:=⟨i.toNat,by omega⟩;have hk:k<j.f.slots.len:=by omega
 have H:=zar [.cells j.va 48,.cells nd.va 65,.cells zTv.toArray 38] w;have B0:=zap [.cells j.va 48,.cells nd.va 65,.cells zTv.toArray 38] w;have SZ:=za9 [.cells j.va 48,.cells nd.va 65,.cells zTv.toArray 38] w;simp only[List.foldl,List.length] at H B0 SZ;have bJ:Blk _ w.heap.size j.vs 48:=H 0 (by simp);have bN:Blk _ (w.heap.size+1) nd.vs 65:=H 1 (by simp);have bZ:Blk _ (w.heap.size+2) zTv 38:=H 2 (by simp);have hj1:=hj.kept B0;clear H;unfold zTv at hj1 B0 bJ bN bZ SZ;go_enter Tryz.func89,Tryz.ntmps89
 go_upto_region 1 with fail
 generalize (((w.alloc (.cells j.va 48)).alloc (.cells nd.va 65)).alloc (.cells #[.int .i64 0,.int .i64 0,.slice none 0 0,.int .i64 0,.int .i64 0] 38))=w1 at *;have HI:Hid (j.At w1∧Below w.heap.size w w1∧Blk w1 (w.heap.size+2) [.int .i64 0,.int .i64 0,.slice none 0 0,.int .i64 0,.int .i64 0] 38∧w1.heap.size=w.heap.size+3):=⟨hj1,B0,bZ,SZ⟩;have hao:=hj1.f.slots.nil (by omega);have c17:=bJ.cell 17 (v:=.slice j.f.slots.ao j.f.slots.len j.f.slots.cap) rfl;have c5:=bN.cell 5 (v:=.int .i64 nd.h.env) rfl;have hC0:∀u,(∃x:Gr w1,u=x.w)→u.rangeAt w.heap.size 0 j.vs:=by rintro _ ⟨x,rfl⟩;exact (bJ.kept x.bl).range
 have hC1:∀u,(∃x:Gr w1,u=x.w)→u.rangeAt j.f.slots.b (j.f.slots.o+k*5) (j.f.slots.ps k).vs:=by rintro _ ⟨x,rfl⟩;exact C5.row ((hj1.f.slots.kept x.bl).cells hk)
 rw[hao] at c17;have p17:=fun x=>Gr.cell x c17;have p5:=fun x=>Gr.cell x c5;have hNE:Nonempty (Gr w1):=⟨⟨_,Below.refl _ _⟩⟩;have hk':(k:Int)<j.f.slots.len:=h1;clear SZ hj1 B0 bJ bN bZ c17 c5 hj hao;refine zah 9 (by kernel_rfl) (by kernel_rfl) ?_;simp only[List.take,List.drop];go_big_quiet_want;refine zaa 48 (.tmp 3) rfl _ 0 (by kernel_rfl) j.vs _ hC0 Tryz.underlying48 rfl (by kernel_rfl) ?_;simp only[Act.put,zA,zB,zC];go_big_quiet_on;iterate 5 go_big_quiet_step (fail)
 go_big_quiet_want;refine zaa 38 (.tmp 12) rfl j.f.slots.b (j.f.slots.o+k*5) (by kernel_rfl) (j.f.slots.ps k).vs _ hC1 Tryz.underlying38 rfl (by kernel_rfl) ?_;simp only[Act.put,zA,zB,zC];go_big_quiet_on;iterate 2 go_big_quiet_step (fail)
 refine wpQuiet_nil ?_;rintro w4 ⟨x4,rfl⟩;have B5:=x4.bl;generalize x4.w=w4 at B5 ⊢;have hR:=zdh D j (j.f.slots.ps k) nd.h.env w4 (HI.out.1.n.kept B5) (HI.out.1.g.kept B5) ((HI.out.1.f.slots.kept B5).part hk) (by have h1:=HI.out.2.1.size;have h2:=B5.size;omega)
 clear x4 p17 p5 hNE hC0 hC1;go_wp2_with fail
 refine hR.mono ?_;rintro _ w5 ⟨u,rfl,uA,uB,uS,hb1⟩;have HU:Hid (u.At w5∧u.same (j.read nd k)=true∧u.Blk (fun b=>b<D∨w.heap.size+3≤b)∧Below w.heap.size w w5):=⟨uA,uS,uB.mono (fun b h=>by have h1:=HI.out.2.2.2;have h2:=B5.size;omega),Below.next (Below.next HI.out.2.1 B5) hb1⟩
 have bZ1:=(HI.out.2.2.1.kept B5).kept hb1;clear hR uA uS uB hb1 B5 HI;go_wp2_with (refine zae rfl rfl 38 (.tmp 6) (.tmp 16) rfl (w.heap.size+2) u.vs (by kernel_rfl) (by kernel_rfl) u.vs_one bZ1 rfl (by kernel_rfl) ?_;intro w2 W2);have z0:=W2.blk.cell 0 (v:=.int .i64 u.k) rfl;have z1:=W2.blk.cell 1 (v:=.int .i64 u.l) rfl;have z2:=W2.blk.cell 2 (v:=.slice u.ao u.len u.cap) rfl;have z3:=W2.blk.cell 3 (v:=.int .i64 u.h) rfl;have z4:=W2.blk.cell 4 (v:=.int .i64 u.e) rfl;exact bodyPost_ret (v:=.agg u.vs.toArray) (by simp[results,Tryz.results89,go_sem,z0,z1,z2,z3,z4,Ty.vs]) rfl ⟨u,rfl,HU.out.1.wrote HU.out.2.2.1 W2 (by omega) (by omega),HU.out.2.2.1.mono (fun b h=>by omega),HU.out.2.1,W2.below (by omega) HU.out.2.2.2⟩
def putO (a:Act)(d:Nat)(o:Option Value):Act:=match o with | none=>a | some v=>a.put (some d) v
theorem zv0 (a:Act){c d:Nat}(h:c≠d)(v v':Value):(a.put (some c) v).put (some d) v'=(a.put (some d) v').put (some c) v:=by
 show ({ a with tmps:=(a.tmps.setIfInBounds c v).setIfInBounds d v' }:Act)={ a with tmps:=(a.tmps.setIfInBounds d v').setIfInBounds c v }
 rw[Array.setIfInBounds_comm _ _ h]
theorem zdf (a:Act){c d:Nat}(h:c≠d)(o:Option Value)(v:Value):(putO a c o).put (some d) v=putO (a.put (some d) v) c o:=by
 cases o with
 | none=>rfl
 | some u=>exact zv0 a h u v
def tyA (t:Ty):Value:=.agg t.vs.toArray
def ptA (B:Nat):Value:=.pointer (some ⟨B,0,none⟩)
def actS (d1 d2 e1 e2:Nat)(a:Act)(o1 o2:Option Ty)(q1 q2:Option Nat):Act:=putO (putO (putO (putO a d1 (o1.map tyA)) d2 (o2.map tyA)) e1 (q1.map ptA)) e2 (q2.map ptA)
structure zmp (d1 d2 e1 e2:Nat):Prop where
 h12:d2≠d1
 h1e:e1≠d1
 h1f:e2≠d1
 h2e:e1≠d2
 h2f:e2≠d2
 hef:e2≠e1
variable {d1 d2 e1 e2:Nat}
theorem zxc (A:zmp d1 d2 e1 e2)(a:Act)(o2:Option Ty)(q1 q2:Option Nat)(t:Ty):(actS d1 d2 e1 e2 a none o2 q1 q2).put (some d1) (tyA t)=actS d1 d2 e1 e2 a (some t) o2 q1 q2:=by
 unfold actS;rw[zdf _ A.h1f,zdf _ A.h1e,zdf _ A.h12];rfl
theorem zw3 (A:zmp d1 d2 e1 e2)(a:Act)(o1:Option Ty)(q1 q2:Option Nat)(t:Ty):(actS d1 d2 e1 e2 a o1 none q1 q2).put (some d2) (tyA t)=actS d1 d2 e1 e2 a o1 (some t) q1 q2:=by
 unfold actS;rw[zdf _ A.h2f,zdf _ A.h2e];rfl
theorem zwy (A:zmp d1 d2 e1 e2)(a:Act)(o1 o2:Option Ty)(q2:Option Nat)(B:Nat):(actS d1 d2 e1 e2 a o1 o2 none q2).put (some e1) (ptA B)=actS d1 d2 e1 e2 a o1 o2 (some B) q2:=by
 unfold actS;rw[zdf _ A.hef];rfl
def Av (D:Nat)(w0:World)(q1 q2:Option Nat)(b:Nat):Prop:=(b<D∨w0.heap.size≤b)∧q1≠some b∧q2≠some b
structure Sx (D:Nat)(w0:World)(r1 r2:Ty)(u:World)(o1 o2:Option Ty)(q1 q2:Option Nat):Prop where
 bl:Below w0.heap.size w0 u
 t1:∀t,o1=some t→t.At u∧t.same r1=true∧t.Blk (Av D w0 q1 q2)
 t2:∀t,o2=some t→t.At u∧t.same r2=true∧t.Blk (Av D w0 q1 q2)
 b1:∀B,q1=some B→w0.heap.size≤B∧Blk u B zTv 38
 b2:∀B,q2=some B→w0.heap.size≤B∧Blk u B zTv 38
 ne:∀B,q1=some B→q2≠some B
variable {D:Nat} {w0:World} {r1 r2:Ty} {u u':World} {o1 o2:Option Ty} {q1 q2:Option Nat}
theorem Sx.grow (h:Sx D w0 r1 r2 u o1 o2 q1 q2)(hb:Below u.heap.size u u'):Sx D w0 r1 r2 u' o1 o2 q1 q2 :=
 ⟨Below.next h.bl hb,fun t e=>⟨(h.t1 t e).1.kept hb,(h.t1 t e).2⟩,fun t e=>⟨(h.t2 t e).1.kept hb,(h.t2 t e).2⟩,fun B e=>⟨(h.b1 B e).1,(h.b1 B e).2.kept hb⟩,fun B e=>⟨(h.b2 B e).1,(h.b2 B e).2.kept hb⟩,h.ne⟩
theorem Sx.newT (h:Sx D w0 r1 r2 u o1 o2 q1 q2)(hD:D≤w0.heap.size){t:Ty}(hk:t.Blk (fun b=>b<D∨u.heap.size≤b)):t.Blk (Av D w0 q1 q2) :=
 hk.mono fun b hb=>⟨by have:=h.bl.size;omega,fun e=>by have h1:=h.b1 b e;have h2:=h1.2.lt;omega,fun e=>by have h1:=h.b2 b e;have h2:=h1.2.lt;omega⟩
theorem Sx.call1 (h:Sx D w0 r1 r2 u none o2 q1 q2)(hD:D≤w0.heap.size)(hb:Below u.heap.size u u'){t:Ty}(ht:t.At u')(hk:t.Blk (fun b=>b<D∨u.heap.size≤b))(hs:t.same r1=true):Sx D w0 r1 r2 u' (some t) o2 q1 q2 :=
 { h.grow hb with t1:=fun t' e=>by cases e;exact⟨ht,hs,h.newT hD hk⟩ }
theorem Sx.call2 (h:Sx D w0 r1 r2 u o1 none q1 q2)(hD:D≤w0.heap.size)(hb:Below u.heap.size u u'){t:Ty}(ht:t.At u')(hk:t.Blk (fun b=>b<D∨u.heap.size≤b))(hs:t.same r2=true):Sx D w0 r1 r2 u' o1 (some t) q1 q2 :=
 { h.grow hb with t2:=fun t' e=>by cases e;exact⟨ht,hs,h.newT hD hk⟩ }
theorem Sx.alloc1 (h:Sx D w0 r1 r2 u o1 o2 none q2):Sx D w0 r1 r2 (u.alloc (.cells zTv.toArray 38)) o1 o2 (some u.heap.size) q2:=by
 have hb:=zac u (.cells zTv.toArray 38);have k:=h.grow hb;refine { k with t1:=fun t e=>⟨(k.t1 t e).1,(k.t1 t e).2.1,?_⟩,t2:=fun t e=>⟨(k.t2 t e).1,(k.t2 t e).2.1,?_⟩,b1:=fun B e=>by cases e;exact⟨h.bl.size,Blk.new u _ _⟩,ne:=fun B e e2=>by cases e;have:=(h.b2 _ e2).2.lt;omega }
 ·exact ((h.t1 t e).2.2.and (h.t1 t e).1.lt).mono fun b hb=>⟨hb.1.1,fun e=>by cases e;exact Nat.lt_irrefl _ hb.2,hb.1.2.2⟩
 ·exact ((h.t2 t e).2.2.and (h.t2 t e).1.lt).mono fun b hb=>⟨hb.1.1,fun e=>by cases e;exact Nat.lt_irrefl _ hb.2,hb.1.2.2⟩
theorem Sx.alloc2 (h:Sx D w0 r1 r2 u o1 o2 q1 none):Sx D w0 r1 r2 (u.alloc (.cells zTv.toArray 38)) o1 o2 q1 (some u.heap.size):=by
 have hb:=zac u (.cells zTv.toArray 38);have k:=h.grow hb;refine { k with t1:=fun t e=>⟨(k.t1 t e).1,(k.t1 t e).2.1,?_⟩,t2:=fun t e=>⟨(k.t2 t e).1,(k.t2 t e).2.1,?_⟩,b2:=fun B e=>by cases e;exact⟨h.bl.size,Blk.new u _ _⟩,ne:=fun B e e2=>by cases e2;have:=(h.b1 _ e).2.lt;omega }
 ·exact ((h.t1 t e).2.2.and (h.t1 t e).1.lt).mono fun b hb=>⟨hb.1.1,hb.1.2.1,fun e=>by cases e;exact Nat.lt_irrefl _ hb.2⟩
 ·exact ((h.t2 t e).2.2.and (h.t2 t e).1.lt).mono fun b hb=>⟨hb.1.1,hb.1.2.1,fun e=>by cases e;exact Nat.lt_irrefl _ hb.2⟩
structure Sy (D:Nat)(w0:World)(r1 r2:Ty)(u:World)(t1 t2:Ty)(B1 B2:Nat):Prop where
 bl:Below w0.heap.size w0 u
 a1:t1.At u
 a2:t2.At u
 s1:t1.same r1=true
 s2:t2.same r2=true
 k1:t1.Blk (Av D w0 (some B1) (some B2))
 k2:t2.Blk (Av D w0 (some B1) (some B2))
 n1:w0.heap.size≤B1
 n2:w0.heap.size≤B2
 b1:Blk u B1 t1.vs 38
 b2:Blk u B2 t2.vs 38
 ne:B1≠B2
theorem alloc_ty (w:World):(Instr.alloc 38 true (.tuple #[])).run Tryz.prog w=.ok (.pointer (some ⟨w.heap.size,0,none⟩)) (w.alloc (.cells zTv.toArray 38)):=by
 have hz:(Tryz.prog.info? 38).map (·.zero)=some (some (.agg zTv.toArray)):=by kernel_rfl
 cases hq:Tryz.prog.info? 38 with
 | none=>rw[hq] at hz;simp at hz
 | some i =>
  rw[hq] at hz;simp at hz
  simp[Instr.alloc,newVar,newRow,zeroValue,typeInfo,hq,hz,Value.cells,zTv]
structure Six (ops:Array Oper)(L:Bool→Bool→Bool→Bool→Bool→Bool→Array Bool)(f:FuncId)(d1 d2 e1 e2:Nat):Prop where
 ap:zmp d1 d2 e1 e2
 h4:∃o,ops[4]?=some o∧o.guard=none∧o.dst=some d1
 h9:∃o,ops[9]?=some o∧o.guard=none∧o.dst=some d2
 h10:∃o,ops[10]?=some o∧o.guard=none∧o.dst=some e1∧o.op=.alloc 38
 h11:∃o,ops[11]?=some o∧o.guard=none∧o.dst=some e2∧o.op=.alloc 38
 h12:∃o,ops[12]?=some o∧o.guard=none∧o.dst=none∧o.op=.store 38 (.tmp e1) (.tmp d1)
 h13:∃o,ops[13]?=some o∧o.guard=none∧o.dst=none∧o.op=.store 38 (.tmp e2) (.tmp d2)
 lset:∀a b c d e g,(L a b c d e g).setIfInBounds 4 true=L true b c d e g∧(L a b c d e g).setIfInBounds 9 true=L a true c d e g∧(L a b c d e g).setIfInBounds 10 true=L a b true d e g∧(L a b c d e g).setIfInBounds 11 true=L a b c true e g∧(L a b c d e g).setIfInBounds 12 true=L a b c d true g∧(L a b c d e g).setIfInBounds 13 true=L a b c d e true
 r0000:Region.ready .any ops (L false false false false false false)=[4,10,11]
 r0010:Region.ready .any ops (L false false true false false false)=[4,11]
 r0001:Region.ready .any ops (L false false false true false false)=[4,10]
 r0011:Region.ready .any ops (L false false true true false false)=[4]
 r1000:Region.ready .any ops (L true false false false false false)=[9,10,11]
 r1010:Region.ready .any ops (L true false true false false false)=[9,11]
 r1001:Region.ready .any ops (L true false false true false false)=[9,10]
 r1011:Region.ready .any ops (L true false true true false false)=[9]
 r1100:Region.ready .any ops (L true true false false false false)=[10,11]
 r1110:Region.ready .any ops (L true true true false false false)=[11]
 r1101:Region.ready .any ops (L true true false true false false)=[10]
 r1111:Region.ready .any ops (L true true true true false false)=[12]
 rs:Region.ready .any ops (L true true true true true false)=[13]
 re:Region.ready .any ops (L true true true true true true)=[]
def RRE (w:World)(r:Ty)(e:Ending)(w':World):Prop:=e=.returned (.agg r.vs.toArray)∧r.At w'∧Below w.heap.size w w'
theorem RRE.intro {w:World}{r:Ty}{e:Ending}{w':World}(u:Ty)(h1:e=.returned (.agg #[.int .i64 u.k,.int .i64 u.l,.slice u.ao u.len u.cap,.int .i64 u.h,.int .i64 u.e]))(h2:u.At w')(h4:u=r)(h5:Below w.heap.size w w'):RRE w r e w':=by subst h4;exact⟨h1,h2,h5⟩
theorem zc6 (n:Strs)(g:Grid)(t:Ty)(a:Int)(w:World)(hn:n.At w)(hg:g.At w)(ht:t.At w) :
  Calls Tryz.prog 32 #[.agg #[.slice n.ao n.len n.cap,.slice g.ao g.len g.cap],.agg #[.int .i64 t.k,.int .i64 t.l,.slice t.ao t.len t.cap,.int .i64 t.h,.int .i64 t.e],.int .i64 a] w fun e w'=>RRE w (zai n g t a) e w':=by
 have K0:=znd w n g t;have HN:Hid (n.At w∧g.At w∧t.At w):=⟨hn,hg,ht⟩;clear hn hg ht;unfold latO tyO at *;have l0:=K0.l.c0;have l1:=K0.l.c1;have x0:=K0.x.c0;have x1:=K0.x.c1;have x2:=K0.x.c2;have x3:=K0.x.c3;have x4:=K0.x.c4;have H1:=zco n g t _ (HN.out.1.kept K0.bl) (HN.out.2.1.kept K0.bl) (HN.out.2.2.kept K0.bl);go_enter Tryz.func32,Tryz.ntmps32
 go_wp2_with fail
 refine H1.mono ?_;rintro e w1 ⟨rfl,hb1⟩;have K1:=K0.step hb1;clear H1 l0 l1 x0 x1 x2 x3 x4 K0 hb1;cases o1:okB n g t
 ·have HV:Hid (zai n g t a=leafT 0 0):=by show zai n g t a=leafT 0 0;unfold zai;rw[o1];rfl
  clear o1;have HR:Hid (Bx w1 (w.heap.size+2) (leafT 0 0)∧∀i,i<5→w1.frozen? ⟨w.heap.size+2,i,none⟩=false):=⟨K1.r,K1.fr⟩;have HBE:Hid (Below w.heap.size w (World.put5 w1 (w.heap.size+2) (.int .i64 0) (.int .i64 0) (.slice none 0 0) (.int .i64 0) (.int .i64 0))):=zdj (by omega) K1.bl _ _ _ _ _;clear K1;go_wp2_with (refine zcb rfl rfl _ _ rfl (w.heap.size+2) _ _ _ _ _ rfl rfl rfl rfl rfl rfl rfl HR.out.1 HR.out.2 ?_)
  obtain⟨e0,e1,e2,e3,e4⟩:=zdb (.int .i64 0) (.int .i64 0) (.slice none 0 0) (.int .i64 0) (.int .i64 0) HR.out.1 HR.out.2;exact bodyPost_ret (v:=.agg #[.int .i64 0,.int .i64 0,.slice none 0 0,.int .i64 0,.int .i64 0]) (by simp[results,Tryz.results32,go_sem,e0,e1,e2,e3,e4]) rfl (RRE.intro (leafT 0 0) rfl (zay _ _ _) HV.out.symm HBE.out)
 have l0:=K1.l.c0;have l1:=K1.l.c1;have H2:=zig n g a w1;have HO:Hid (okB n g t=true):=o1;clear o1;go_wp2_with fail
 refine H2.mono ?_;rintro e w2 ⟨rfl,hb2⟩;have K2:=K1.step hb2;clear H2 l0 l1 K1 hb2;cases o2:labB n a
 ·have HV:Hid (zai n g t a=leafT 0 0):=by
   show zai n g t a=leafT 0 0
   unfold zai;have e:inR n.len a=labB n a:=rfl;rw[e,o2,Bool.and_false];rfl
  clear o2;have HR:Hid (Bx w2 (w.heap.size+2) (leafT 0 0)∧∀i,i<5→w2.frozen? ⟨w.heap.size+2,i,none⟩=false):=⟨K2.r,K2.fr⟩;have HBE:Hid (Below w.heap.size w (World.put5 w2 (w.heap.size+2) (.int .i64 0) (.int .i64 0) (.slice none 0 0) (.int .i64 0) (.int .i64 0))):=zdj (by omega) K2.bl _ _ _ _ _;clear K2;go_wp2_with (refine zcb rfl rfl _ _ rfl (w.heap.size+2) _ _ _ _ _ rfl rfl rfl rfl rfl rfl rfl HR.out.1 HR.out.2 ?_)
  obtain⟨e0,e1,e2,e3,e4⟩:=zdb (.int .i64 0) (.int .i64 0) (.slice none 0 0) (.int .i64 0) (.int .i64 0) HR.out.1 HR.out.2;exact bodyPost_ret (v:=.agg #[.int .i64 0,.int .i64 0,.slice none 0 0,.int .i64 0,.int .i64 0]) (by simp[results,Tryz.results32,go_sem,e0,e1,e2,e3,e4]) rfl (RRE.intro (leafT 0 0) rfl (zay _ _ _) HV.out.symm HBE.out)
 have HV:Hid (zai n g t a=t.setL (zau n g t.l a)):=by
  show zai n g t a=t.setL (zau n g t.l a)
  unfold zai;have e:inR n.len a=labB n a:=rfl;rw[e,o2,HO.out];rfl
 clear o2 HO;have l0:=K2.l.c0;have l1:=K2.l.c1;have x1:=K2.x.c1;have H3:=zfn n g t.l a w2 (HN.out.1.kept K2.bl) (HN.out.2.1.kept K2.bl);go_wp2_with fail
 refine H3.mono ?_;rintro e w3 ⟨rfl,hb3⟩;have K3:=K2.step hb3;clear H3 l0 l1 x1 K2 hb3;have x1:=K3.x.c1;have f1:=K3.fx 1 (by omega);have X0:(w3.setCell ⟨w.heap.size+1,1,none⟩ (.int .i64 (zau n g t.l a))).cell? ⟨w.heap.size+1,0,none⟩=some (.int .i64 t.k):=by rw[World.cell?_setCell_other _ _ _ _ (by simp)];exact K3.x.c0
 have X1:(w3.setCell ⟨w.heap.size+1,1,none⟩ (.int .i64 (zau n g t.l a))).cell? ⟨w.heap.size+1,1,none⟩=some (.int .i64 (zau n g t.l a)):=World.cell?_setCell_same _ _ _ K3.x.c1;have X2:(w3.setCell ⟨w.heap.size+1,1,none⟩ (.int .i64 (zau n g t.l a))).cell? ⟨w.heap.size+1,2,none⟩=some (.slice t.ao t.len t.cap):=by rw[World.cell?_setCell_other _ _ _ _ (by simp)];exact K3.x.c2
 have X3:(w3.setCell ⟨w.heap.size+1,1,none⟩ (.int .i64 (zau n g t.l a))).cell? ⟨w.heap.size+1,3,none⟩=some (.int .i64 t.h):=by rw[World.cell?_setCell_other _ _ _ _ (by simp)];exact K3.x.c3
 have X4:(w3.setCell ⟨w.heap.size+1,1,none⟩ (.int .i64 (zau n g t.l a))).cell? ⟨w.heap.size+1,4,none⟩=some (.int .i64 t.e):=by rw[World.cell?_setCell_other _ _ _ _ (by simp)];exact K3.x.c4
 have hz:(w3.setCell ⟨w.heap.size+1,1,none⟩ (.int .i64 (zau n g t.l a))).heap[w.heap.size+2]?=w3.heap[w.heap.size+2]?:=Below.heap_setCell _ _ _ _ (by show w.heap.size+2≠w.heap.size+1;omega)
 have HR:Hid (Bx (w3.setCell ⟨w.heap.size+1,1,none⟩ (.int .i64 (zau n g t.l a))) (w.heap.size+2) (leafT 0 0)∧∀i,i<5→(w3.setCell ⟨w.heap.size+1,1,none⟩ (.int .i64 (zau n g t.l a))).frozen? ⟨w.heap.size+2,i,none⟩=false):=⟨K3.r.agree hz,fun i hi=>by rw[World.frozen?_setCell];exact K3.fr i hi⟩
 have HBE:Hid (Below w.heap.size w (World.put5 (w3.setCell ⟨w.heap.size+1,1,none⟩ (.int .i64 (zau n g t.l a))) (w.heap.size+2) (.int .i64 t.k) (.int .i64 (zau n g t.l a)) (.slice t.ao t.len t.cap) (.int .i64 t.h) (.int .i64 t.e))):=zdj (by omega) (K3.bl.setCell (by show w.heap.size≤w.heap.size+1;omega) _) _ _ _ _ _
 have HA:Hid ((t.setL (zau n g t.l a)).At (World.put5 (w3.setCell ⟨w.heap.size+1,1,none⟩ (.int .i64 (zau n g t.l a))) (w.heap.size+2) (.int .i64 t.k) (.int .i64 (zau n g t.l a)) (.slice t.ao t.len t.cap) (.int .i64 t.h) (.int .i64 t.e))):=zlc (HN.out.2.2.kept HBE.out);clear K3 hz;go_wp2_with (refine zcb rfl rfl _ _ rfl (w.heap.size+2) _ _ _ _ _ rfl rfl rfl rfl rfl rfl rfl HR.out.1 HR.out.2 ?_)
 obtain⟨e0,e1,e2,e3,e4⟩:=zdb (.int .i64 t.k) (.int .i64 (zau n g t.l a)) (.slice t.ao t.len t.cap) (.int .i64 t.h) (.int .i64 t.e) HR.out.1 HR.out.2;have hv:=zsc (j:=zau n g t.l a) HN.out.2.2;exact bodyPost_ret (v:=.agg #[.int .i64 t.k,.int .i64 (zau n g t.l a),.slice t.ao t.len t.cap,.int .i64 t.h,.int .i64 t.e]) (by simp[results,Tryz.results32,go_sem,e0,e1,e2,e3,e4]) rfl (RRE.intro (t.setL (zau n g t.l a)) (by rw[hv.1,hv.2.1,hv.2.2.1,hv.2.2.2.1,hv.2.2.2.2.1,hv.2.2.2.2.2.1,hv.2.2.2.2.2.2]) HA.out HV.out.symm HBE.out)
end
end Go.Proofs.YtgioppfoceddfaaGreat
