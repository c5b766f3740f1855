import Derived.Test.YtgioppfoceddfaaGreatP14
import Derived.Test.YtgioppfoceddfaaGreatP8
import Derived.Deep.RegionHeld3
import Derived.Deep.DeepCutAuto
import Derived.Test.YtgioppfoceddfaaGreatP15
import Derived.Test.YtgioppfoceddfaaGreatP10
import Derived.ProofKit
import Derived.Deep.Grids
import Derived.Lib.SmallJoins
set_option maxRecDepth 100000
set_option maxHeartbeats 32000000
namespace Go.Proofs.YtgioppfoceddfaaGreat
section
def Ty.Nd:Ty→Prop
 | .dm=>False
 | .mk _ _ _ _ _ _ _ len _ ps=>∀i,i<len→Ty.Nd (ps i)
theorem Ty.At.nd {w:World}:∀{t:Ty},t.At w→t.Nd
 | .dm,h=>h
 | .mk _ _ _ _ _ _ _ _ _ _,h=>fun i hi=>Ty.At.nd (h.2.2 i hi).2
theorem zfy {N:Nat}:∀s t:Ty,s.Nd→t.Nd→s.same t=true→(∀d,s.fm N d=t.fm N d)∧s.nodes=t.nodes:=by
 intro s
 induction s with
 | dm=>intro t h;exact h.elim
 | mk k l hh e ao b o len cap ps ih =>
  intro t hs ht h;rcases t with _ | ⟨tk,tl,th,te,tao,tb,to',tlen,tcap,tps⟩
  ·exact ht.elim
  rw[zbb] at h;obtain⟨⟨h1,h2,h3,h4,h5⟩,h6⟩:=h;have h1':k=tk:=h1;have h2':l=tl:=h2;have h3':hh=th:=h3;have h4':e=te:=h4;have h5':len=tlen:=h5;subst h1' h2' h3' h4' h5';have sub:∀i,i<len→(∀d,(ps i).fm N d=(tps i).fm N d)∧(ps i).nodes=(tps i).nodes:=fun i hi=>ih i (tps i) (hs i hi) (ht i hi) (h6 i hi);refine⟨fun d=>?_,?_⟩
  ·rw[fm_eq,fm_eq]
   congr 1
   rw[decide_eq_decide];exact⟨fun hh i hi=>by rw[← (sub i hi).1];exact hh i hi,fun hh i hi=>by rw[(sub i hi).1];exact hh i hi⟩
  ·show 1+za6 (fun i=>(ps i).nodes) len=1+za6 (fun i=>(tps i).nodes) len
   rw[zl0 len (fun i hi=>(sub i hi).2)]
end
section
open Go.RowKit
theorem zrn {w w':World}{base:Nat}{e:TypeId}{size:Nat}{v:Value}{n:Nat}{xs:List Value}(h:w.ownsRow base e size v n xs)(ag:∀b,base≤b→b<w.heap.size→w'.heap[b]?=w.heap[b]?):w'.ownsRow base e size v n xs:=by
 obtain⟨h1,h2⟩:=h;refine⟨h1,?_⟩;rcases h2 with h2 | ⟨g,cap,cur,hv,hg,hh,r⟩
 ·exact Or.inl h2
 ·exact Or.inr ⟨g,cap,cur,hv,hg,(ag g hg (Array.getElem?_eq_some_iff.1 hh).1).trans hh,r⟩
end
section
open Go.ChangeShapes Go.WideShapes Go.ChangeAt Go.RowKit Go.Deep Go.Joins
theorem Tryz.iInt:Tryz.prog.cellsOf 3=1:=by kernel_rfl
theorem Tryz.iInt64:Tryz.prog.cellsOf 2=1:=by kernel_rfl
theorem Tryz.iInts:Tryz.prog.cellsOf 63=1:=by kernel_rfl
theorem Tryz.iTys:Tryz.prog.cellsOf 36=1:=by kernel_rfl
theorem Tryz.iNds:Tryz.prog.cellsOf 39=1:=by kernel_rfl
theorem Tryz.iNd:Tryz.prog.cellsOf 65=14:=by kernel_rfl
theorem Tryz.iFn:Tryz.prog.cellsOf 41=16:=by kernel_rfl
theorem iaddr (b off i:Nat):(⟨b,off,none⟩:Addr).add i=⟨b,off+i,none⟩:=by unfold Addr.add;split <;> simp_all
section
variable {H:Type} {enc:TypeId × Value→H} {W:World} {base:Nat}
theorem zhw {t:TypeId}{fuel:Nat}{cs:List Value}{x:DataW H × List MemPlace}{fs:Array Field}(ht:Tryz.prog.underlying t=some (.struct fs))(h:DataW.trod enc Tryz.prog W base (fun _=>true) true fuel t cs=some x) :
  ∃n,n<fuel∧cs.length=Tryz.prog.cellsOf t∧∀(i:Nat) (f:Field),fs[i]?=some f→∃y,DataW.trod enc Tryz.prog W base (fun _=>true) true n f.type ((cs.drop f.offset).take (Tryz.prog.cellsOf f.type))=some y:=by
 obtain⟨xs,n,rfl,_,hl,hlen,hf⟩:=DataW.trod_struct ht h;refine⟨n,by omega,hl,fun i f hi=>?_⟩;have hlt:i<xs.length:=by rw[hlen];exact (Array.getElem?_eq_some_iff.1 hi).1
 exact⟨xs[i],by rw[hf i f hi,List.getElem?_eq_getElem hlt]⟩
theorem zg5 {S E:TypeId}{c:Nat}(hu:Tryz.prog.underlying S=some (.slice E))(hc:Tryz.prog.cellsOf E=c){fuel:Nat}{v:Value}{x:DataW H × List MemPlace}(h:DataW.trod enc Tryz.prog W base (fun _=>true) true fuel S [v]=some x) :
  v=.slice none 0 0∨∃(a:Addr) (len cap:Nat),v=.slice (some a) len cap∧len≤9223372036854775807∧len≤cap∧∀i,i<len→∃m cs y,m<fuel∧DataW.trod enc Tryz.prog W base (fun _=>true) true m E cs=some y∧∀j,j<c→W.cell? (a.add (i*c+j))=cs[j]?:=by
 rcases DataW.trod_slice hu h with ⟨hcs,_⟩ | ⟨a,len,cap,elems,rest,m,hm,hcs,_,_,hlc,hmx,hel,hx,_,_⟩
 ·exact Or.inl (by simpa using hcs)
 ·refine Or.inr ⟨a,len,cap,by simpa using hcs,by unfold maxLen at hmx;omega,hlc,fun i hi=>?_⟩
  have h1:=hx i hi;rw[hc] at h1;cases hcc:W.cells? base (a.add (i*c)) c with
  | none=>rw[hcc] at h1;simp at h1;omega
  | some cs' =>
   rw[hcc] at h1;have h2:DataW.trod enc Tryz.prog W base (fun _=>true) true m E cs'=some elems[i]:=by
    rw[List.getElem?_eq_getElem (by omega)] at h1
    simpa using h1
   obtain⟨_,_,hcell⟩:=World.cells?_some hcc;exact⟨m,cs',_,by omega,h2,fun j hj=>by rw[←hcell j hj,add_add]⟩
theorem iplain {a:Addr}{v:Value}(h:W.cell? (a.add 0)=some v):a=⟨a.block,a.off,none⟩:=by
 have hs:=World.cell?_spot h;obtain⟨ab,ao,asp⟩:=a;have:asp=none:=by simpa [Addr.add] using hs
 subst this;rfl
theorem zms {c:Nat}(hc:0<c){a:Addr}{len:Nat}{F:Nat→List Value}(hl:∀i,(F i).length=c)(h:∀i,i<len→∀j,j<c→W.cell? (a.add (i*c+j))=(F i)[j]?):(0<len→a=⟨a.block,a.off,none⟩)∧∀i,i<len→W.rangeAt a.block (a.off+i*c) (F i):=by
 have hs:0<len→a=⟨a.block,a.off,none⟩:=fun hp=>by
  have h0:=h 0 hp 0 hc;rw[Nat.zero_mul,List.getElem?_eq_getElem (by rw[hl];exact hc)] at h0
  exact iplain h0
 refine⟨hs,fun i hi j u hu=>?_⟩;have hj:j<c:=by rw[←hl i];exact (List.getElem?_eq_some_iff.1 hu).1
 have:=h i hi j hj;rw[hs (by omega),iaddr,←Nat.add_assoc] at this;rw[←hu];exact this
theorem C5.of_row {w:World}{b o:Nat}{t:Ty}(h:w.rangeAt b o t.vs):C5 w b o t:=⟨h 0 _ rfl,h 1 _ rfl,h 2 _ rfl,h 3 _ rfl,h 4 _ rfl⟩
theorem zls {fuel:Nat}{v:Value}{x:DataW H × List MemPlace}(h:DataW.trod enc Tryz.prog W base (fun _=>true) true fuel 36 [v]=some x):∃t:Ty,v=.slice t.ao t.len t.cap∧t.At W∧t.len≤t.cap∧(t.ao=none→t.len=0∧t.cap=0):=by
 rcases zg5 Tryz.underlying36 Tryz.cellsTy h with rfl | ⟨a,len,cap,rfl,hb,hlc,hx⟩
 ·exact⟨.mk 0 0 0 0 none 0 0 0 0 (fun _=>.dm),rfl,⟨fun h=>absurd h (Nat.lt_irrefl _),Nat.zero_le _,fun _ h=>absurd h (Nat.not_lt_zero _)⟩,Nat.le_refl _,fun _=>⟨rfl,rfl⟩⟩
 ·have each:∀i,i<len→∃t:Ty,(∀j,j<5→W.cell? (a.add (i*5+j))=t.vs[j]?)∧t.At W:=fun i hi=>by
   obtain⟨m,cs,y,_,h1,h2⟩:=hx i hi;obtain⟨t,rfl,hA⟩:=zi7 m cs y h1;exact⟨t,h2,hA⟩
  have R:=zms (W:=W) (a:=a) (len:=len) (c:=5) (by decide) (F:=fun i=>(if h:i<len then Classical.choose (each i h) else .dm).vs) (fun i=>rfl) (fun i hi j hj=>by
   show _=(if h:i<len then Classical.choose (each i h) else .dm).vs[j]?
   rw[dif_pos hi];exact (Classical.choose_spec (each i hi)).1 j hj)
  refine⟨.mk 0 0 0 0 (some a) a.block a.off len cap (fun i=>if h:i<len then Classical.choose (each i h) else .dm),rfl,⟨fun hp=>congrArg some (R.1 hp),hb,fun i hi=>⟨C5.of_row (R.2 i hi),?_⟩⟩,hlc,fun h=>by cases h⟩;show (if h:i<len then Classical.choose (each i h) else .dm).At W
  rw[dif_pos hi];exact (Classical.choose_spec (each i hi)).2
theorem zqz {fuel:Nat}{v:Value}{x:DataW H × List MemPlace}(h:DataW.trod enc Tryz.prog W base (fun _=>true) true fuel 63 [v]=some x):∃s:Is,v=.slice s.ao s.len s.cap∧s.At W:=by
 rcases zg5 Tryz.underlying63 Tryz.iInt h with rfl | ⟨a,len,cap,rfl,hb,hlc,hx⟩
 ·exact⟨Is.nl,rfl,Is.nl_at W⟩
 ·have each:∀i,i<len→∃t:Int,(∀j,j<1→W.cell? (a.add (i*1+j))=[Value.int .i64 t][j]?):=fun i hi=>by
   obtain⟨m,cs,y,_,h1,h2⟩:=hx i hi;obtain⟨k,q,_⟩:=DataW.trod_int Tryz.underlying3 h1;subst q;exact⟨k,h2⟩
  have R:=zms (W:=W) (a:=a) (len:=len) (c:=1) (by decide) (F:=fun i=>[Value.int .i64 (if h:i<len then Classical.choose (each i h) else 0)]) (fun i=>rfl) (fun i hi j hj=>by
   show _=[Value.int .i64 (if h:i<len then Classical.choose (each i h) else 0)][j]?
   rw[dif_pos hi];exact (Classical.choose_spec (each i hi)) j hj)
  refine⟨⟨some a,a.block,a.off,len,cap,fun i=>if h:i<len then Classical.choose (each i h) else 0⟩,rfl,⟨fun hp=>congrArg some (R.1 hp),hb,fun i hi=>?_⟩⟩;have:=R.2 i hi 0 _ rfl;show W.cell? ⟨a.block,a.off+i,none⟩=_
  rw[show a.off+i=a.off+i*1+0 by omega];exact this
theorem zit {fuel:Nat}(ih:∀m,m<fuel→∀(cs:List Value) (x:DataW H × List MemPlace),DataW.trod enc Tryz.prog W base (fun _=>true) true m 65 cs=some x→∃t:Nd,cs=t.vs∧t.At W){v:Value}{x:DataW H × List MemPlace}(h:DataW.trod enc Tryz.prog W base (fun _=>true) true fuel 39 [v]=some x):∃s:Ns,v=.slice s.ao s.len s.cap∧s.At W:=by
 rcases zg5 Tryz.underlying39 Tryz.iNd h with rfl | ⟨a,len,cap,rfl,hb,hlc,hx⟩
 ·exact⟨Ns.nl,rfl,Ns.nl_at W⟩
 ·have each:∀i,i<len→∃t:Nd,(∀j,j<14→W.cell? (a.add (i*14+j))=t.vs[j]?)∧t.At W:=fun i hi=>by
   obtain⟨m,cs,y,hm,h1,h2⟩:=hx i hi;obtain⟨t,rfl,hA⟩:=ih m hm cs y h1;exact⟨t,h2,hA⟩
  have R:=zms (W:=W) (a:=a) (len:=len) (c:=14) (by decide) (F:=fun i=>(if h:i<len then Classical.choose (each i h) else .dm).vs) (fun i=>rfl) (fun i hi j hj=>by
   show _=(if h:i<len then Classical.choose (each i h) else .dm).vs[j]?
   rw[dif_pos hi];exact (Classical.choose_spec (each i hi)).1 j hj)
  refine⟨⟨some a,a.block,a.off,len,cap,fun i=>if h:i<len then Classical.choose (each i h) else .dm⟩,rfl,⟨fun hp=>congrArg some (R.1 hp),hb,fun i hi=>R.2 i hi,fun i hi=>?_⟩⟩;show (if h:i<len then Classical.choose (each i h) else .dm).At W
  rw[dif_pos hi];exact (Classical.choose_spec (each i hi)).2
theorem zuu:∀(fuel:Nat) (cs:List Value) (x:DataW H × List MemPlace),DataW.trod enc Tryz.prog W base (fun _=>true) true fuel 65 cs=some x→∃t:Nd,cs=t.vs∧t.At W:=by
 intro fuel
 induction fuel using Nat.strongRecOn with
 | _ fuel ih =>
  intro cs x h;obtain⟨n,hnf,hl,hf⟩:=zhw Tryz.underlying65 h;rw[Tryz.iNd] at hl
  match cs,hl with
  | [c0,c1,c2,c3,c4,c5,c6,c7,c8,c9,c10,c11,c12,c13],_ =>
   obtain⟨z0,g0⟩:=hf 0 _ rfl;obtain⟨z1,g1⟩:=hf 1 _ rfl;obtain⟨z2,g2⟩:=hf 2 _ rfl;obtain⟨z3,g3⟩:=hf 3 _ rfl;obtain⟨z4,g4⟩:=hf 4 _ rfl;obtain⟨z5,g5⟩:=hf 5 _ rfl;obtain⟨z6,g6⟩:=hf 6 _ rfl;obtain⟨z7,g7⟩:=hf 7 _ rfl;obtain⟨z8,g8⟩:=hf 8 _ rfl;obtain⟨z9,g9⟩:=hf 9 _ rfl;have f0:DataW.trod enc Tryz.prog W base (fun _=>true) true n 3 [c0]=some z0:=by simpa [Tryz.iInt] using g0
   have f1:DataW.trod enc Tryz.prog W base (fun _=>true) true n 3 [c1]=some z1:=by simpa [Tryz.iInt] using g1
   have f2:DataW.trod enc Tryz.prog W base (fun _=>true) true n 3 [c2]=some z2:=by simpa [Tryz.iInt] using g2
   have f3:DataW.trod enc Tryz.prog W base (fun _=>true) true n 3 [c3]=some z3:=by simpa [Tryz.iInt] using g3
   have f4:DataW.trod enc Tryz.prog W base (fun _=>true) true n 2 [c4]=some z4:=by simpa [Tryz.iInt64] using g4
   have f5:DataW.trod enc Tryz.prog W base (fun _=>true) true n 3 [c5]=some z5:=by simpa [Tryz.iInt] using g5
   have f6:DataW.trod enc Tryz.prog W base (fun _=>true) true n 38 [c6,c7,c8,c9,c10]=some z6:=by simpa [Tryz.cellsTy] using g6
   have f7:DataW.trod enc Tryz.prog W base (fun _=>true) true n 63 [c11]=some z7:=by simpa [Tryz.iInts] using g7
   have f8:DataW.trod enc Tryz.prog W base (fun _=>true) true n 39 [c12]=some z8:=by simpa [Tryz.iNds] using g8
   have f9:DataW.trod enc Tryz.prog W base (fun _=>true) true n 39 [c13]=some z9:=by simpa [Tryz.iNds] using g9
   obtain⟨k0,q0,_⟩:=DataW.trod_int Tryz.underlying3 f0;obtain⟨k1,q1,_⟩:=DataW.trod_int Tryz.underlying3 f1;obtain⟨k2,q2,_⟩:=DataW.trod_int Tryz.underlying3 f2;obtain⟨k3,q3,_⟩:=DataW.trod_int Tryz.underlying3 f3;obtain⟨k4,q4,_⟩:=DataW.trod_int Tryz.underlying2 f4;obtain⟨k5,q5,_⟩:=DataW.trod_int Tryz.underlying3 f5;obtain⟨t,q6,hT⟩:=zi7 _ _ _ f6;obtain⟨ar,rfl,hR⟩:=zqz f7;obtain⟨bd,rfl,hB⟩:=zit (fun m hm=>ih m (by omega)) f8;obtain⟨el,rfl,hE⟩:=zit (fun m hm=>ih m (by omega)) f9;simp only[List.cons.injEq,and_true] at q0 q1 q2 q3 q4 q5;subst q0 q1 q2 q3 q4 q5;simp only[Ty.cs,List.cons.injEq,and_true] at q6;obtain⟨rfl,rfl,rfl,rfl,rfl⟩:=q6;exact⟨.mk ⟨k0,k1,k2,k3,k4,k5,t,ar⟩ bd.ao bd.b bd.o bd.len bd.cap bd.ps el.ao el.b el.o el.len el.cap el.ps,rfl,⟨hT,hR⟩,⟨hB.nil,hB.bound,fun i hi=>⟨hB.cells i hi,hB.part i hi⟩⟩,⟨hE.nil,hE.bound,fun i hi=>⟨hE.cells i hi,hE.part i hi⟩⟩⟩
theorem zvn {fuel:Nat}{cs:List Value}{x:DataW H × List MemPlace}(h:DataW.trod enc Tryz.prog W base (fun _=>true) true fuel 41 cs=some x):∃f:Fc,cs=f.vs∧f.At W∧(f.slots.ao=none→f.slots.len=0∧f.slots.cap=0):=by
 obtain⟨n,_,hl,hf⟩:=zhw Tryz.underlying41 h;rw[Tryz.iFn] at hl
 match cs,hl with
 | [c0,c1,c2,c3,c4,c5,c6,c7,c8,c9,c10,c11,c12,c13,c14,c15],_ =>
  obtain⟨z0,g0⟩:=hf 0 _ rfl;obtain⟨z1,g1⟩:=hf 1 _ rfl;obtain⟨z2,g2⟩:=hf 2 _ rfl;obtain⟨z3,g3⟩:=hf 3 _ rfl;obtain⟨z4,g4⟩:=hf 4 _ rfl;obtain⟨z5,g5⟩:=hf 5 _ rfl;obtain⟨z6,g6⟩:=hf 6 _ rfl;obtain⟨z7,g7⟩:=hf 7 _ rfl;have f0:DataW.trod enc Tryz.prog W base (fun _=>true) true n 38 [c0,c1,c2,c3,c4]=some z0:=by simpa [Tryz.cellsTy] using g0
  have f1:DataW.trod enc Tryz.prog W base (fun _=>true) true n 38 [c5,c6,c7,c8,c9]=some z1:=by simpa [Tryz.cellsTy] using g1
  have f2:DataW.trod enc Tryz.prog W base (fun _=>true) true n 36 [c10]=some z2:=by simpa [Tryz.iTys] using g2
  have f3:DataW.trod enc Tryz.prog W base (fun _=>true) true n 3 [c11]=some z3:=by simpa [Tryz.iInt] using g3
  have f4:DataW.trod enc Tryz.prog W base (fun _=>true) true n 3 [c12]=some z4:=by simpa [Tryz.iInt] using g4
  have f5:DataW.trod enc Tryz.prog W base (fun _=>true) true n 36 [c13]=some z5:=by simpa [Tryz.iTys] using g5
  have f6:DataW.trod enc Tryz.prog W base (fun _=>true) true n 39 [c14]=some z6:=by simpa [Tryz.iNds] using g6
  have f7:DataW.trod enc Tryz.prog W base (fun _=>true) true n 3 [c15]=some z7:=by simpa [Tryz.iInt] using g7
  obtain⟨p,hp,hpA⟩:=zi7 _ _ _ f0;obtain⟨r,hr,hrA⟩:=zi7 _ _ _ f1;obtain⟨c,rfl,hcA,_⟩:=zls f2;obtain⟨hh,q3,_⟩:=DataW.trod_int Tryz.underlying3 f3;obtain⟨ee,q4,_⟩:=DataW.trod_int Tryz.underlying3 f4;obtain⟨sl,rfl,hsA,hlc,hno⟩:=zls f5;obtain⟨bd,rfl,hB⟩:=zit (fun m _=>zuu m) f6;obtain⟨ou,q7,_⟩:=DataW.trod_int Tryz.underlying3 f7;simp only[List.cons.injEq,and_true] at q3 q4 q7;subst q3 q4 q7;simp only[Ty.cs,List.cons.injEq,and_true] at hp hr;obtain⟨rfl,rfl,rfl,rfl,rfl⟩:=hp;obtain⟨rfl,rfl,rfl,rfl,rfl⟩:=hr;exact⟨⟨p,r,c,hh,ee,sl,bd,ou⟩,rfl,⟨hpA,hrA,hcA,hsA,hB,hlc⟩,hno⟩
def noFc:Fc:=⟨.dm,.dm,.dm,0,0,.dm,Ns.nl,0⟩
theorem ztq {v:Value}{d:DataW H}{p:List MemPlace}{b0:Nat}(hv:Value.okWide Tryz.prog W .any b0 26 v)(h:DataW.Trod enc Tryz.prog W base (fun _=>true) true 26 v d p) :
  ∃s:Fl,v=.slice s.ao s.len s.cap∧s.At W∧(s.ao=none→s.len=0∧s.cap=0)∧∀i,i<s.len→((s.ps i).slots.ao=none→(s.ps i).slots.len=0∧(s.ps i).slots.cap=0):=by
 obtain⟨fuel,hf⟩:=h;obtain⟨ao,len,cap,rfl,_⟩:=okWide_slice Tryz.underlying26 hv;have hf':DataW.trod enc Tryz.prog W base (fun _=>true) true fuel 26 [.slice ao len cap]=some (d,p):=by simpa [Value.cells] using hf
 rcases zg5 Tryz.underlying26 Tryz.iFn hf' with e | ⟨a,len',cap',e,hb,hlc,hx⟩
 ·exact⟨⟨none,0,0,0,0,fun _=>noFc⟩,e,⟨fun h=>absurd h (Nat.lt_irrefl _),Nat.zero_le _,fun _ h=>absurd h (Nat.not_lt_zero _),fun _ h=>absurd h (Nat.not_lt_zero _)⟩,fun _=>⟨rfl,rfl⟩,fun _ h=>absurd h (Nat.not_lt_zero _)⟩
 ·rw[e];have each:∀i,i<len'→∃t:Fc,(∀j,j<16→W.cell? (a.add (i*16+j))=t.vs[j]?)∧t.At W∧(t.slots.ao=none→t.slots.len=0∧t.slots.cap=0):=fun i hi=>by
   obtain⟨m,cs,y,_,h1,h2⟩:=hx i hi;obtain⟨t,rfl,hA,hno⟩:=zvn h1;exact⟨t,h2,hA,hno⟩
  have R:=zms (W:=W) (a:=a) (len:=len') (c:=16) (by decide) (F:=fun i=>(if h:i<len' then Classical.choose (each i h) else noFc).vs) (fun i=>rfl) (fun i hi j hj=>by
   show _=(if h:i<len' then Classical.choose (each i h) else noFc).vs[j]?
   rw[dif_pos hi];exact (Classical.choose_spec (each i hi)).1 j hj)
  refine⟨⟨some a,a.block,a.off,len',cap',fun i=>if h:i<len' then Classical.choose (each i h) else noFc⟩,rfl,⟨fun hp=>congrArg some (R.1 hp),hb,fun i hi=>R.2 i hi,fun i hi=>?_⟩,(fun h=>by cases h),fun i hi=>?_⟩
  ·show (if h:i<len' then Classical.choose (each i h) else noFc).At W
   rw[dif_pos hi];exact (Classical.choose_spec (each i hi)).2.1
  ·show (if h:i<len' then Classical.choose (each i h) else noFc).slots.ao=none→(if h:i<len' then Classical.choose (each i h) else noFc).slots.len=0∧(if h:i<len' then Classical.choose (each i h) else noFc).slots.cap=0
   have hi':i<len':=hi;rw[dif_pos hi'];exact (Classical.choose_spec (each i hi')).2.2
end
end
end Go.Proofs.YtgioppfoceddfaaGreat
