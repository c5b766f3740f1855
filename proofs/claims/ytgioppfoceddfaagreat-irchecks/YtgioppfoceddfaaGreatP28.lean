import Derived.Test.YtgioppfoceddfaaGreatP8
import Derived.Deep.AppendLies
import Derived.Laws.AppendOwnNone
import Derived.Test.YtgioppfoceddfaaGreatP25
import Derived.Test.YtgioppfoceddfaaGreatP22
import Derived.Test.YtgioppfoceddfaaGreatP23
set_option maxRecDepth 100000
set_option maxHeartbeats 32000000
namespace Go.Proofs.YtgioppfoceddfaaGreat
section
open Go.RowKit
theorem gbr (w:World)(r:Option Nat):w.grownBy w r:=⟨rfl,rfl,rfl,Nat.le_refl _,fun _ _ _=>rfl⟩
theorem zsj {w0 a b:World}{r:Option Nat}(h:Below w0.heap.size w0 a)(hg:a.grownBy b r)(hr:∀k,r=some k→w0.heap.size≤k):Below w0.heap.size w0 b:=by
 have hs:=h.size;refine⟨hg.os.trans h.os,hg.tape.trans h.tape,hg.output.trans h.output,Nat.le_trans h.size hg.size,fun k hk=>?_⟩;rw[hg.block k (by omega) (fun e=>by have:=hr k e.symm;omega)]
 exact h.block k hk
theorem owb {w:World}{base:Nat}{e:TypeId}{size:Nat}{v:Value}{n:Nat}{xs:List Value}(h:w.ownsRow base e size v n xs){k:Nat}(hb:v.ownBlock=some k):base≤k∧k<w.heap.size:=by
 obtain⟨_,⟨rfl,_⟩ | ⟨g,cap,cur,rfl,hg,hh,_⟩⟩:=h
 ·cases hb
 ·have:g=k:=by simpa [Value.ownBlock] using hb
  subst this;exact⟨hg,(Array.getElem?_eq_some_iff.1 hh).1⟩
theorem owk {w w':World}{base:Nat}{e:TypeId}{size:Nat}{v:Value}{n:Nat}{xs:List Value}(h:w.ownsRow base e size v n xs)(hb:Below w.heap.size w w'):w'.ownsRow base e size v n xs:=by
 have hl:=fun k hk=>(owb h (k:=k) hk).2;obtain⟨h0,h⟩:=h;refine⟨h0,?_⟩;rcases h with ⟨rfl,hn⟩ | ⟨g,cap,cur,rfl,hg,hh,hr⟩
 ·exact Or.inl ⟨rfl,hn⟩
 ·exact Or.inr ⟨g,cap,cur,rfl,hg,(hb.block g (hl g rfl)).trans hh,hr⟩
theorem zj2 {w:World}{base:Nat}{e:TypeId}{size:Nat}{v:Value}{n:Nat}{xs:List Value}(h:w.ownsRow base e size v n xs):∃ao cap,v=.slice ao n cap:=by
 obtain⟨_,⟨rfl,rfl⟩ | ⟨g,cap,cur,rfl,_⟩⟩:=h
 ·exact⟨none,0,rfl⟩
 ·exact⟨_,cap,rfl⟩
theorem zla {S E:TypeId}{size bytes:Nat}{z:Value}(hu:Tryz.prog.underlying S=some (.slice E))(hinf:(Tryz.prog.info? E).map (fun i=>(i.zero,i.size,i.bytes))=some (some z,size,bytes))(hzc:z.cells.size=size)(hpos:0<size)(w:World)(ty:TypeId)(base:Nat)(v:Value)(n:Nat)(xs:List Value)(ho:w.ownsRow base E size v n xs)(ao:Option Addr)(m c:Nat)(news:List Value)(hnone:ao=none→m=0∧c=0)(hl:news.length=m*size)(hn:∀a,ao=some a→∀j u,news[j]?=some u→w.cell? (a.add j)=some u)(h1:∀u ∈ news,u.oneCell'=true)(h63:n+m≤maxLen)(hbytes:(n+m)*bytes≤140737488355328)(hb:base≤w.heap.size) :
  ∃v' w',(Builtin.append_ #[S,S] ty #[v,.slice ao m c]).run Tryz.prog w=.ok v' w'∧w'.ownsRow base E size v' (n+m) (xs++news)∧w.grownBy w' v.ownBlock:=by
 obtain⟨i0,hi,hz0,hz1,hz2⟩:=info_parts hinf;cases ao with
 | none =>
  obtain⟨rfl,rfl⟩:=hnone rfl;have hl0:news=[]:=List.eq_nil_of_length_eq_zero (by rw[hl];omega)
  subst hl0;refine⟨v,w,?_,?_,gbr _ _⟩
  ·exact run_append_owned_none (P:=Tryz.prog) w base S ty E i0 size hu hi v n xs ho
  ·rw[List.append_nil];exact ho
 | some a =>
  obtain⟨v',w',hr,h2,h3,_⟩:=run_append_own (P:=Tryz.prog) w base S ty E i0 z size bytes hu hi hz0 hz1 hz2 hzc hpos v n xs ho a m c news hl (hn a rfl) h1 h63 hbytes hb;exact⟨v',w',hr,h2,h3⟩
def zbp (f:Nat→List Value):Nat→List Value
 | 0=>[]
 | k+1=>zbp f k++f k
theorem zlv {f:Nat→List Value}{c:Nat}(h:∀i,(f i).length=c):∀k,(zbp f k).length=k*c
 | 0=>by simp[zbp]
 | k+1=>by
  show (zbp f k++f k).length=_
  rw[List.length_append,zlv h k,h,Nat.add_mul,Nat.one_mul]
theorem zh3 {f:Nat→List Value}{c:Nat}(h:∀i,(f i).length=c):∀k i j,i<k→j<c→(zbp f k)[i*c+j]?=(f i)[j]?
 | 0,i,_,hi,_=>absurd hi (Nat.not_lt_zero _)
 | k+1,i,j,hi,hj=>by
  show (zbp f k++f k)[i*c+j]?=_
  have hl:=zlv h k;by_cases e:i=k
  ·subst e;rw[List.getElem?_append_right (by rw[hl];omega),hl]
   congr 1;omega
  ·have h2:i*c+j<k*c:=by
    have:(i+1)*c≤k*c:=Nat.mul_le_mul_right c (by omega);rw[Nat.add_mul,Nat.one_mul] at this;omega
   rw[List.getElem?_append_left (by rw[hl];exact h2)]
   exact zh3 h k i j (by omega) hj
theorem zhy (f h:Nat→List Value)(a:Nat):∀b,zbp (fun i=>if i<a then f i else h (i - a)) (a+b)=zbp f a++zbp h b
 | 0=>by
  rw[Nat.add_zero];show _=zbp f a++[]
  rw[List.append_nil];have key:∀k,k≤a→zbp (fun i=>if i<a then f i else h (i - a)) k=zbp f k:=fun k=>by
   induction k with
   | zero=>intro _;rfl
   | succ k ih =>
    intro hk;show zbp _ k++_=zbp f k++f k
    rw[ih (by omega)];simp only[if_pos (show k<a by omega)]
  exact key a (Nat.le_refl _)
 | b+1=>by
  show zbp _ (a+b)++(if a+b<a then f (a+b) else h (a+b - a))=zbp f a++(zbp h b++h b)
  rw[zhy f h a b,List.append_assoc,if_neg (show ¬a+b<a by omega),show a+b - a=b by omega]
theorem adp (b off i:Nat):(⟨b,off,none⟩:Addr).add i=⟨b,off+i,none⟩:=by unfold Addr.add;split <;> simp_all
end
section
open Go Go.RowKit
theorem Tryz.infoRn:(Tryz.prog.info? 86).map (fun i=>(i.zero,i.size,i.bytes))=some (some (.agg zNv.toArray),14,176):=by kernel_rfl
def rnN (h:Hd)(s1 s2:Ns):Nd:=.mk h s1.ao s1.b s1.o s1.len s1.cap s1.ps s2.ao s2.b s2.o s2.len s2.cap s2.ps
theorem zm5 (h:Hd)(s1 s2:Ns)(w:World):(Instr.build 86 #[(0,.int .i64 h.op),(1,.int .i64 h.dst),(2,.int .i64 h.a),(3,.int .i64 h.b),(4,.int .i64 h.n),(5,.int .i64 h.env),(6,.agg h.t.vs.toArray),(7,.slice h.ar.ao h.ar.len h.ar.cap),(8,.slice s1.ao s1.len s1.cap),(9,.slice s2.ao s2.len s2.cap)]).run Tryz.prog w=.ok (.agg (rnN h s1 s2).vs.toArray) w:=by kernel_rfl
theorem zvh (t:Nd):Instr.fill (fun i=>some (i*14,14)) (Array.map (fun x=>zNv[x % zNv.length]?.getD default) (Array.range 14)) [(0,Value.agg t.vs.toArray)]=some t.vs.toArray:=by kernel_rfl
theorem zml (t:Nd)(w:World):(Instr.buildSlice 50 1 #[(0,.agg t.vs.toArray)]).run Tryz.prog w=.ok (.slice (some ⟨w.heap.size,0,none⟩) 1 1) (w.alloc (.cells t.vs.toArray 86)):=by
 obtain⟨i0,hi,hz0,hz1,hz2⟩:=info_parts Tryz.infoRn;simp[Instr.buildSlice,run_underlying Tryz.underlying50,sizeOf,typeInfo,hi,hz0,hz1,zeroValue,newRow,Value.cells,zvh]
theorem zmb {o:Oper}{a:Act}{w w':World}{v:Value}{K:Act→World→Prop}{Q:Exit→Act→World→Prop}(t:TypeId)(parts:Array (Nat × Operand))(ho:o.op=.build t parts)(vals:Array (Nat × Value))(hv:(parts.map fun (i,x)=>(i,a.eval x))=vals)
  (hs:(Instr.build t vals).run Tryz.prog w=.ok v w') (h:K (a.put o.dst v) w'):o.wp Tryz.prog a w K Q:=by
 subst hv;unfold Oper.wp execOp;simp only[ho,Sem.run_bind,hs,Result.andThen_ok,Sem.run_pure];exact h
theorem zoy (n:Nd):n.vs.length=14:=rfl
theorem zo5 {w w':World}{B:Nat}{c:List Value}{t:TypeId}{r:Option Nat}(h:Blk w B c t)(hg:w.grownBy w' r)(hr:some B≠r):Blk w' B c t:=by
 unfold Blk;rw[hg.block B h.lt hr];exact h
theorem zxq {w:World}:∀{m:Nd} {s1 s2:Ns},m.At w→m.bd.eqv s1→m.el.eqv s2→m.eqv (rnN m.h s1 s2)
 | .dm,_,_,h,_,_=>h.elim
 | .mk _ _ _ _ _ _ _ _ _ _ _ _ _,_,_,_,h1,h2=>⟨rfl,h1.1,h2.1,h1.2,h2.2⟩
theorem rnN_rw {u:World}{Q:Nat→Prop}{h:Hd}{s1 s2:Ns}(h1:s1.Rw u Q)(h2:s2.Rw u Q):(rnN h s1 s2).Rw u Q:=⟨⟨h1.nil,h1.bound,h1.part⟩,⟨h2.nil,h2.bound,h2.part⟩⟩
def zd9 (b:Ns):Prop:=∀w:World,b.At w→b.szd→Calls Tryz.prog 18 #[.slice b.ao b.len b.cap] w fun e w'=>∃s:Ns,e=.returned (.slice s.ao s.len s.cap)∧b.eqv s∧Below w.heap.size w w'∧s.Rw w' (fun c=>w.heap.size≤c∧c<w'.heap.size)
structure Pn (w:World)(b:Ns)(k:Nat)(sv:Value)(F:Nat→Nd)(u:World):Prop where
 bl:Below w.heap.size w u
 row:u.ownsRow w.heap.size 86 14 sv k (zbp (fun i=>(F i).vs) k)
 eq:∀i,i<k→(b.ps i).eqv (F i)
 rw_:∀i,i<k→(F i).Rw u (fun c=>(w.heap.size≤c∧c<u.heap.size)∧some c≠sv.ownBlock)
theorem Pn.kept {w:World}{b:Ns}{k:Nat}{sv:Value}{F:Nat→Nd}{u u':World}(h:Pn w b k sv F u)(hb:Below u.heap.size u u'):Pn w b k sv F u' :=
 ⟨Below.next h.bl hb,owk h.row hb,h.eq,fun i hi=>(h.rw_ i hi).agree (fun c hc=>hb.block c hc.1.2) (fun _ hc=>⟨⟨hc.1.1,Nat.lt_of_lt_of_le hc.1.2 hb.size⟩,hc.2⟩)⟩
theorem Pn.more {w:World}{b:Ns}{k:Nat}{sv:Value}{F:Nat→Nd}{u u':World}{g cap:Nat}(n:Nd)(h:Pn w b k sv F u)(he:(b.ps k).eqv n)(hr:n.Rw u (fun c=>(w.heap.size≤c∧c<u.heap.size)∧some c≠sv.ownBlock))(hg:u.grownBy u' sv.ownBlock)(ho:u'.ownsRow w.heap.size 86 14 (.slice (some ⟨g,0,none⟩) (k+1) cap) (k+1) (zbp (fun i=>(F i).vs) k++n.vs))(hgg:sv.ownBlock=some g∨g=u.heap.size) :
  Pn w b (k+1) (.slice (some ⟨g,0,none⟩) (k+1) cap) (fun i=>if i<k then F i else n) u':=by
 have ag:∀c,((w.heap.size≤c∧c<u.heap.size)∧some c≠sv.ownBlock)→u'.heap[c]?=u.heap[c]?:=fun c hc=>hg.block c hc.1.2 hc.2;have qq:∀c,((w.heap.size≤c∧c<u.heap.size)∧some c≠sv.ownBlock)→((w.heap.size≤c∧c<u'.heap.size)∧some c≠Value.ownBlock (.slice (some ⟨g,0,none⟩) (k+1) cap)):=fun c hc=>by
  refine⟨⟨hc.1.1,Nat.lt_of_lt_of_le hc.1.2 hg.size⟩,fun e=>?_⟩;have e':c=g:=by simpa [Value.ownBlock] using e
  rcases hgg with h1 | h1
  ·exact hc.2 (by rw[h1,e'])
  ·have:=hc.1.2;omega
 have key:∀i,i<k+1→(i<k∧(if i<k then F i else n)=F i)∨(i=k∧(if i<k then F i else n)=n):=fun i hi=>by
  rcases Nat.lt_or_ge i k with h1 | h1
  ·exact Or.inl ⟨h1,if_pos h1⟩
  ·exact Or.inr ⟨by omega,if_neg (by omega)⟩
 refine⟨zsj h.bl hg (fun c hc=>(owb h.row hc).1),?_,fun i hi=>?_,fun i hi=>?_⟩
 ·have e:zbp (fun i=>(if i<k then F i else n).vs) (k+1)=zbp (fun i=>(F i).vs) k++n.vs:=by
   have h1:=zhy (fun i=>(F i).vs) (fun _=>n.vs) k 1;have h2:(fun i=>(if i<k then F i else n).vs)=fun i=>if i<k then (F i).vs else n.vs:=by
    funext i
    split <;> rfl
   rw[h2,h1];rfl
  rw[e];exact ho
 ·rcases key i hi with ⟨h1,h2⟩ | ⟨h1,h2⟩
  ·simp only[h2];exact h.eq i h1
  ·subst h1;simp only[h2];exact he
 ·rcases key i hi with ⟨h1,h2⟩ | ⟨h1,h2⟩
  ·simp only[h2];exact (h.rw_ i h1).agree ag qq
  ·subst h1;simp only[h2];exact hr.agree ag qq
theorem Pn.done {w:World}{b:Ns}{sv:Value}{F:Nat→Nd}{u:World}(h:Pn w b b.len sv F u)(hl:b.len≤200):∃s:Ns,sv=.slice s.ao s.len s.cap∧b.eqv s∧s.Rw u (fun c=>w.heap.size≤c∧c<u.heap.size):=by
 have hrow:=h.row;obtain⟨hx,⟨rfl,h0⟩ | ⟨g,cap,cur,rfl,hg,hh,hr⟩⟩:=hrow
 ·refine⟨Ns.nl,rfl,⟨by show 0=b.len;omega,fun i hi=>absurd hi (by omega)⟩,⟨fun hp=>absurd hp (Nat.lt_irrefl _),Nat.zero_le _,fun i hi=>absurd hi (Nat.not_lt_zero _)⟩⟩
 ·have ho:=h.row;refine⟨⟨some ⟨g,0,none⟩,g,0,b.len,cap,F⟩,rfl,⟨rfl,h.eq⟩,⟨fun _=>⟨rfl,hg,(Array.getElem?_eq_some_iff.1 hh).1⟩,by show b.len≤_;omega,fun i hi=>⟨fun j v hv=>?_,(h.rw_ i hi).agree (fun _ _=>rfl) (fun c hc=>hc.1)⟩⟩⟩
  have hj:j<14:=by rw[←zoy (F i)];exact (List.getElem?_eq_some_iff.1 hv).1
  show u.cell? ⟨g,0+i*14+j,none⟩=some v
  have hi':i<b.len:=hi;rw[Nat.zero_add,ho.cellAt (i*14+j) (by omega)];rw[zh3 (fun i=>zoy (F i)) b.len i j hi' hj];exact hv
theorem zg3 (b:Ns)(ih:∀i,i<b.len→zd9 (b.ps i).bd∧zd9 (b.ps i).el):zd9 b:=by
 intro w hb hz;have HH:=hid (show (∀i,i<b.len→zd9 (b.ps i).bd∧zd9 (b.ps i).el)∧b.At w∧b.szd from ⟨ih,hb,hz⟩);have hnil:0<b.len→b.ao=some ⟨b.b,b.o,none⟩:=hb.nil;have hbd:b.len≤9223372036854775807:=hb.bound;obtain⟨i0,hi,hz0,hz1,hz2⟩:=info_parts Tryz.infoRn;have HX:=hid (show Tryz.prog.info? 86=some i0∧i0.zero=some (.agg zNv.toArray)∧i0.size=14∧i0.bytes=176 from ⟨hi,hz0,hz1,hz2⟩);clear ih hb hz hi hz0 hz1 hz2;generalize hlen:b.len=len at *;have HL:Hid (b.len=len):=hlen;clear hlen;generalize b.ao=ao at *;generalize b.cap=cap at *;go_enter Tryz.func18,Tryz.ntmps18
 go_wp2;go_loopw [3,4] (fun sv i wr=>∃(k:Nat) (F:Nat→Nd),k≤len∧i=.int .i64 k∧Pn w b k sv F wr) (fun _ i _=>len - (intOf i).toNat)
 case atStart=>exact⟨0,fun _=>.dm,Nat.zero_le _,rfl,⟨Below.refl _ _,World.ownsRow_nil _ _ _ _,fun i hi=>absurd hi (Nat.not_lt_zero _),fun i hi=>absurd hi (Nat.not_lt_zero _)⟩⟩
 case round =>
  obtain⟨k,F,hk,rfl,hP⟩:=hrel;have HP:=hid hP;clear hP;obtain⟨as7,cs7,hsv⟩:=zj2 HP.out.row;subst hsv;by_cases hlt:k<len
  ·have ij:(k:Int)<len:=by omega
   have a0:=hnil (by omega);subst a0;have hlt':k<b.len:=by rw[HL.out];exact hlt
   have rN:wr.rangeAt b.b (b.o+k*14) (b.ps k).vs:=(HH.out.2.1.kept HP.out.bl).cells k hlt';have HN:=hid (show (b.ps k).At w∧(zd9 (b.ps k).bd∧zd9 (b.ps k).el)∧(b.ps k).szd from ⟨HH.out.2.1.part k hlt',HH.out.1 k hlt,HH.out.2.2.2 k hlt'⟩);clear hlt';generalize hnd:b.ps k=nd at *;have HND:=hid hnd;clear hnd;have hN:=zac wr (.cells nd.vs.toArray 65);have HB:=hid (show Below wr.heap.size wr (wr.alloc (.cells nd.vs.toArray 65))∧Blk (wr.alloc (.cells nd.vs.toArray 65)) wr.heap.size nd.vs 65 from ⟨hN,Blk.new wr _ _⟩);clear hN;go_upto_region 6 with (first | (refine wpList_load_mid rfl 65 (.tmp 14) rfl b.b (b.o+k*14) (by kernel_rfl) nd.vs _ rN Tryz.underlying65 rfl (by kernel_rfl) ?_) | (refine zao rfl rfl 65 rfl (.tmp 5) (.tmp 15) rfl zNv (zg7 _) rfl nd.vs.toArray (by kernel_rfl) (by kernel_rfl) rfl (by kernel_rfl) (by simpa using nd.va_one) ?_))
   clear rN;generalize (wr.alloc (.cells nd.vs.toArray 65))=w2 at *;simp only[Act.put,zA,zB,zC];have hdb:=(Below.refl w2.heap.size w2).drew;have HV0:=hid (show Below wr.heap.size wr w2.drew∧Blk w2.drew wr.heap.size nd.vs 65 from ⟨Below.next HB.out.1 hdb,HB.out.2.kept hdb⟩);clear hdb HB;have rT:∀q,(∃x:Wd (fun q=>Blk q wr.heap.size nd.vs 65),q=x.w)→q.rangeAt wr.heap.size 6 nd.h.t.vs:=by rintro _ ⟨x,rfl⟩;exact zbm x.2 6 rfl rfl rfl rfl rfl
   have p0:∀x:Wd (fun q=>Blk q wr.heap.size nd.vs 65),x.w.cell? ⟨wr.heap.size,0,none⟩=some (.int .i64 nd.h.op):=fun x=>x.2.cell 0 rfl;have p1:∀x:Wd (fun q=>Blk q wr.heap.size nd.vs 65),x.w.cell? ⟨wr.heap.size,1,none⟩=some (.int .i64 nd.h.dst):=fun x=>x.2.cell 1 rfl;have p2:∀x:Wd (fun q=>Blk q wr.heap.size nd.vs 65),x.w.cell? ⟨wr.heap.size,2,none⟩=some (.int .i64 nd.h.a):=fun x=>x.2.cell 2 rfl;have p3:∀x:Wd (fun q=>Blk q wr.heap.size nd.vs 65),x.w.cell? ⟨wr.heap.size,3,none⟩=some (.int .i64 nd.h.b):=fun x=>x.2.cell 3 rfl;have p4:∀x:Wd (fun q=>Blk q wr.heap.size nd.vs 65),x.w.cell? ⟨wr.heap.size,4,none⟩=some (.int .i64 nd.h.n):=fun x=>x.2.cell 4 rfl;have p5:∀x:Wd (fun q=>Blk q wr.heap.size nd.vs 65),x.w.cell? ⟨wr.heap.size,5,none⟩=some (.int .i64 nd.h.env):=fun x=>x.2.cell 5 rfl;have p11:∀x:Wd (fun q=>Blk q wr.heap.size nd.vs 65),x.w.cell? ⟨wr.heap.size,11,none⟩=some (.slice nd.h.ar.ao nd.h.ar.len nd.h.ar.cap):=fun x=>x.2.cell 11 rfl;have p12:∀x:Wd (fun q=>Blk q wr.heap.size nd.vs 65),x.w.cell? ⟨wr.heap.size,12,none⟩=some (.slice nd.bd.ao nd.bd.len nd.bd.cap):=fun x=>x.2.cell 12 rfl;have p13:∀x:Wd (fun q=>Blk q wr.heap.size nd.vs 65),x.w.cell? ⟨wr.heap.size,13,none⟩=some (.slice nd.el.ao nd.el.len nd.el.cap):=fun x=>x.2.cell 13 rfl;have hNE:Nonempty (Wd (fun q=>Blk q wr.heap.size nd.vs 65)):=⟨⟨_,HV0.out.2⟩⟩;refine zal (fun q=>Blk q wr.heap.size nd.vs 65) [0,1,2,3,4,5,6,7,8,9,10,11,12,13,14,15,16,17,18,20,21] 6 (by kernel_rfl) rfl (by kernel_rfl) (zbt (by kernel_rfl)) HV0.out.2 ?_;simp only[List.filterMap,zD,zE];generalize w2.drew=v0 at *;iterate 14 go_big_quiet_step (fail)
   go_big_quiet_want;refine zaa 38 (.tmp 29) rfl _ 6 (by kernel_rfl) nd.h.t.vs _ rT Tryz.underlying38 rfl (by kernel_rfl) ?_;simp only[Act.put,zA,zB,zC];go_big_quiet_on;iterate 6 go_big_quiet_step (fail)
   refine wpQuiet_nil ?_;clear rT p0 p1 p2 p3 p4 p5 p11 p12 p13 hNE;refine wpAnyH_ready (rs:=[19]) (by kernel_rfl) (by simp) ?_;refine AllReadyH.cons rfl (fun K hK=>?_) AllReadyH.nil;rw[if_pos (by rfl)];go_simp;refine (HN.out.2.1.1 v0 (HN.out.1.bd.kept (Below.next HP.out.bl HV0.out.1)) (Nd.szd_bd HN.out.2.2)).mono ?_;rintro _ v1 ⟨s1,rfl,hq1,hb1,hr1⟩;have HV1:=hid (show Below wr.heap.size wr v1∧Blk v1 wr.heap.size nd.vs 65∧nd.bd.eqv s1∧s1.Rw v1 (fun c=>wr.heap.size≤c∧c<v1.heap.size) from ⟨Below.next HV0.out.1 hb1,HV0.out.2.kept hb1,hq1,hr1.agree (fun _ _=>rfl) (fun c hc=>⟨Nat.le_trans HV0.out.1.size hc.1,hc.2⟩)⟩);refine hK.out _ _ HV1.out.2.1 (fun _=>?_);clear hK K hb1 hq1 hr1 HV0;refine wpAnyH_ready (rs:=[22]) (by kernel_rfl) (by simp) ?_;refine AllReadyH.cons rfl (fun K hK=>?_) AllReadyH.nil;rw[if_pos (by rfl)];go_simp;refine (HN.out.2.1.2 v1 (HN.out.1.el.kept (Below.next HP.out.bl HV1.out.1)) (Nd.szd_el HN.out.2.2)).mono ?_;rintro _ v2 ⟨s2,rfl,hq2,hb2,hr2⟩;have HV2:=hid (show Below wr.heap.size wr v2∧Blk v2 wr.heap.size nd.vs 65∧(nd.bd.eqv s1∧nd.el.eqv s2)∧s1.Rw v2 (fun c=>wr.heap.size≤c∧c<v2.heap.size)∧s2.Rw v2 (fun c=>wr.heap.size≤c∧c<v2.heap.size) from ⟨Below.next HV1.out.1 hb2,HV1.out.2.1.kept hb2,⟨HV1.out.2.2.1,hq2⟩,HV1.out.2.2.2.agree (fun c hc=>hb2.block c hc.2) (fun c hc=>⟨hc.1,Nat.lt_of_lt_of_le hc.2 hb2.size⟩),hr2.agree (fun _ _=>rfl) (fun c hc=>⟨Nat.le_trans HV1.out.1.size hc.1,hc.2⟩)⟩);refine hK.out _ _ HV2.out.2.1 (fun _=>?_);clear hK K hb2 hq2 hr2 HV1;refine wpAnyH_ready (rs:=[23]) (by kernel_rfl) (by simp) ?_;refine AllReadyH.cons rfl (fun K hK=>?_) AllReadyH.nil;rw[if_pos (by rfl)];refine zmb 86 #[(0,.tmp 18),(1,.tmp 20),(2,.tmp 22),(3,.tmp 24),(4,.tmp 26),(5,.tmp 28),(6,.tmp 30),(7,.tmp 32),(8,.tmp 35),(9,.tmp 38)] rfl _ (by kernel_rfl) (zm5 nd.h s1 s2 v2) ?_;refine hK.out _ _ HV2.out.2.1 (fun _=>?_);clear hK K;have HNN:=hid (show (b.ps k).eqv (rnN nd.h s1 s2)∧(rnN nd.h s1 s2).Rw v2 (fun c=>wr.heap.size≤c∧c<v2.heap.size) from ⟨by rw[HND.out];exact zxq HN.out.1 HV2.out.2.2.1.1 HV2.out.2.2.1.2,rnN_rw HV2.out.2.2.2.1 HV2.out.2.2.2.2⟩)
   generalize rnN nd.h s1 s2=n2 at *;have hrn:=zml n2 v2;have hb3:=zac v2 (.cells n2.vs.toArray 86);have HV3:=hid (show Below wr.heap.size wr (v2.alloc (.cells n2.vs.toArray 86))∧Blk (v2.alloc (.cells n2.vs.toArray 86)) wr.heap.size nd.vs 65∧Blk (v2.alloc (.cells n2.vs.toArray 86)) v2.heap.size n2.vs 86∧n2.Rw (v2.alloc (.cells n2.vs.toArray 86)) (fun c=>wr.heap.size≤c∧c<(v2.alloc (.cells n2.vs.toArray 86)).heap.size) from ⟨Below.next HV2.out.1 hb3,HV2.out.2.1.kept hb3,Blk.new v2 _ _,HNN.out.2.agree (fun c hc=>hb3.block c hc.2) (fun c hc=>⟨hc.1,Nat.lt_of_lt_of_le hc.2 hb3.size⟩)⟩);refine wpAnyH_ready (rs:=[24]) (by kernel_rfl) (by simp) ?_;refine AllReadyH.cons rfl (fun K hK=>?_) AllReadyH.nil;rw[if_pos (by rfl)];refine zbe 50 1 #[(0,.tmp 39)] rfl #[(0,.agg n2.vs.toArray)] (by kernel_rfl) hrn ?_;refine hK.out _ _ HV3.out.2.1 (fun _=>?_);clear hK K hb3 hrn HV2;generalize (v2.alloc (.cells n2.vs.toArray 86))=v3 at *;generalize v2.heap.size=B2 at *;have HP3:=hid (HP.out.kept HV3.out.1);have hnew:∀j u,n2.vs[j]?=some u→v3.cell? ((⟨B2,0,none⟩:Addr).add j)=some u:=fun j u hu=>by
    rw[adp,Nat.zero_add];exact HV3.out.2.2.1.cell j hu
   refine wpAnyH_ready (rs:=[25]) (by kernel_rfl) (by simp) ?_;refine AllReadyH.cons rfl (fun K hK=>?_) AllReadyH.nil;rw[if_pos (by rfl)];refine wp_append_lies v3 (.tmp 16) (.tmp 40) 50 rfl w.heap.size 86 i0 _ 14 176 Tryz.underlying50 HX.out.1 HX.out.2.1 HX.out.2.2.1 HX.out.2.2.2 rfl (by decide) (.slice as7 k cs7) k (zbp (fun i=>(F i).vs) k) (by kernel_rfl) HP3.out.row ⟨B2,0,none⟩ 1 1 n2.vs (by kernel_rfl) rfl hnew (fun u hu=>List.all_eq_true.1 n2.va_one u hu) (by decide) (by have h1:=HH.out.2.2.1;have h2:=HL.out;unfold maxLen;omega) (by have h1:=HH.out.2.2.1;have h2:=HL.out;omega) (Nat.le_trans HP.out.bl.size HV3.out.1.size) v3.heap.size rfl ?_
   intro gg cap3 w8 hown8 hgrow hat hltg;have HPN:=hid (HP3.out.more n2 HNN.out.1 (HV3.out.2.2.2.agree (fun _ _=>rfl) (fun c hc=>⟨⟨Nat.le_trans HP.out.bl.size hc.1,hc.2⟩,fun e=>by have:=(owb HP.out.row e.symm).2;omega⟩)) hgrow hown8 hat)
   have HB8:=hid (zo5 HV3.out.2.1 hgrow (fun e=>by have:=(owb HP.out.row e.symm).2;omega))
   refine hK.out _ _ HB8.out (fun _=>?_);clear hK K hown8 hgrow hat hltg hnew HP3 HV3 HNN;refine wpAnyH_ready (rs:=[26]) (by kernel_rfl) (by simp) ?_;refine AllReadyH.cons rfl (fun K hK=>?_) AllReadyH.nil;rw[if_pos (by rfl)];go_simp;refine hK.out _ _ HB8.out (fun _=>?_);clear hK K;refine wpAnyH_done (by kernel_rfl) ?_ _;refine⟨(fun c hc=>by cases hc),?_⟩;go_wp2;go_roundw
   case rel=>exact⟨k+1,_,by omega,by go_num,HPN.out⟩
   case measure=>simp[intOf];omega
  ·have e2:k=len:=by omega
   subst e2;have d:¬(k:Int)<k:=by omega
   have HD:Hid (∃s:Ns,(.slice as7 k cs7:Value)=.slice s.ao s.len s.cap∧b.eqv s∧s.Rw wr (fun c=>w.heap.size≤c∧c<wr.heap.size)):=by
    have h:=HP.out;have hz:=HH.out.2.2.1;rw[←HL.out] at h ⊢;exact h.done hz
   go_wp2;obtain⟨s,hs,hq,hr⟩:=HD.out;rw[hs];go_ret;exact⟨s,rfl,hq,HP.out.bl,hr⟩
theorem zvt:∀n:Nd,zd9 n.bd∧zd9 n.el:=by
 intro n
 induction n using Nd.ind with
 | h n ih1 ih2=>exact⟨zg3 _ ih1,zg3 _ ih2⟩
theorem zqi (b:Ns):zd9 b:=zg3 b fun i _=>zvt (b.ps i)
theorem Tryz.infoRf:(Tryz.prog.info? 53).map (fun i=>(i.zero,i.size,i.bytes))=some (some (.agg zFv.toArray),16,208):=by kernel_rfl
theorem znw (f:Fc)(s:Ns)(w:World):(Instr.build 53 #[(0,.agg f.param.vs.toArray),(1,.agg f.result.vs.toArray),(2,.slice f.caps.ao f.caps.len f.caps.cap),(3,.int .i64 f.heap),(4,.int .i64 f.exc),(5,.slice f.slots.ao f.slots.len f.slots.cap),(6,.slice s.ao s.len s.cap),(7,.int .i64 f.out)]).run Tryz.prog w=.ok (.agg ({ f with body:=s }:Fc).vs.toArray) w:=by kernel_rfl
theorem zvi (t:Fc):Instr.fill (fun i=>some (i*16,16)) (Array.map (fun x=>zFv[x % zFv.length]?.getD default) (Array.range 16)) [(0,Value.agg t.vs.toArray)]=some t.vs.toArray:=by kernel_rfl
theorem zmj (t:Fc)(w:World):(Instr.buildSlice 33 1 #[(0,.agg t.vs.toArray)]).run Tryz.prog w=.ok (.slice (some ⟨w.heap.size,0,none⟩) 1 1) (w.alloc (.cells t.vs.toArray 53)):=by
 obtain⟨i0,hi,hz0,hz1,hz2⟩:=info_parts Tryz.infoRf;simp[Instr.buildSlice,run_underlying Tryz.underlying33,sizeOf,typeInfo,hi,hz0,hz1,zeroValue,newRow,Value.cells,zvi]
theorem zo6 (f:Fc):f.vs.length=16:=rfl
def FeV (f f':Fc):Prop:=∃s:Ns,f'={ f with body:=s }∧f.body.eqv s
structure Pf (w:World)(l:Fl)(k:Nat)(sv:Value)(F:Nat→Fc)(u:World):Prop where
 bl:Below w.heap.size w u
 row:u.ownsRow w.heap.size 53 16 sv k (zbp (fun i=>(F i).vs) k)
 eq:∀i,i<k→FeV (l.ps i) (F i)
 rw_:∀i,i<k→(F i).body.Rw u (fun c=>(w.heap.size≤c∧c<u.heap.size)∧some c≠sv.ownBlock)
theorem Pf.kept {w:World}{l:Fl}{k:Nat}{sv:Value}{F:Nat→Fc}{u u':World}(h:Pf w l k sv F u)(hb:Below u.heap.size u u'):Pf w l k sv F u' :=
 ⟨Below.next h.bl hb,owk h.row hb,h.eq,fun i hi=>(h.rw_ i hi).agree (fun c hc=>hb.block c hc.1.2) (fun _ hc=>⟨⟨hc.1.1,Nat.lt_of_lt_of_le hc.1.2 hb.size⟩,hc.2⟩)⟩
theorem Pf.more {w:World}{l:Fl}{k:Nat}{sv:Value}{F:Nat→Fc}{u u':World}{g cap:Nat}(n:Fc)(h:Pf w l k sv F u)(he:FeV (l.ps k) n)(hr:n.body.Rw u (fun c=>(w.heap.size≤c∧c<u.heap.size)∧some c≠sv.ownBlock))(hg:u.grownBy u' sv.ownBlock)(ho:u'.ownsRow w.heap.size 53 16 (.slice (some ⟨g,0,none⟩) (k+1) cap) (k+1) (zbp (fun i=>(F i).vs) k++n.vs))(hgg:sv.ownBlock=some g∨g=u.heap.size) :
  Pf w l (k+1) (.slice (some ⟨g,0,none⟩) (k+1) cap) (fun i=>if i<k then F i else n) u':=by
 have ag:∀c,((w.heap.size≤c∧c<u.heap.size)∧some c≠sv.ownBlock)→u'.heap[c]?=u.heap[c]?:=fun c hc=>hg.block c hc.1.2 hc.2;have qq:∀c,((w.heap.size≤c∧c<u.heap.size)∧some c≠sv.ownBlock)→((w.heap.size≤c∧c<u'.heap.size)∧some c≠Value.ownBlock (.slice (some ⟨g,0,none⟩) (k+1) cap)):=fun c hc=>by
  refine⟨⟨hc.1.1,Nat.lt_of_lt_of_le hc.1.2 hg.size⟩,fun e=>?_⟩;have e':c=g:=by simpa [Value.ownBlock] using e
  rcases hgg with h1 | h1
  ·exact hc.2 (by rw[h1,e'])
  ·have:=hc.1.2;omega
 have key:∀i,i<k+1→(i<k∧(if i<k then F i else n)=F i)∨(i=k∧(if i<k then F i else n)=n):=fun i hi=>by
  rcases Nat.lt_or_ge i k with h1 | h1
  ·exact Or.inl ⟨h1,if_pos h1⟩
  ·exact Or.inr ⟨by omega,if_neg (by omega)⟩
 refine⟨zsj h.bl hg (fun c hc=>(owb h.row hc).1),?_,fun i hi=>?_,fun i hi=>?_⟩
 ·have e:zbp (fun i=>(if i<k then F i else n).vs) (k+1)=zbp (fun i=>(F i).vs) k++n.vs:=by
   have h1:=zhy (fun i=>(F i).vs) (fun _=>n.vs) k 1;have h2:(fun i=>(if i<k then F i else n).vs)=fun i=>if i<k then (F i).vs else n.vs:=by
    funext i
    split <;> rfl
   rw[h2,h1];rfl
  rw[e];exact ho
 ·rcases key i hi with ⟨h1,h2⟩ | ⟨h1,h2⟩
  ·simp only[h2];exact h.eq i h1
  ·subst h1;simp only[h2];exact he
 ·rcases key i hi with ⟨h1,h2⟩ | ⟨h1,h2⟩
  ·simp only[h2];exact (h.rw_ i h1).agree ag qq
  ·subst h1;simp only[h2];exact hr.agree ag qq
structure PlF (w:World)(l s:Fl)(u:World):Prop where
 len:s.len=l.len
 nil:0<s.len→s.ao=some ⟨s.b,s.o,none⟩
 cells:∀i,i<s.len→u.rangeAt s.b (s.o+i*16) (s.ps i).vs
 eq:∀i,i<l.len→FeV (l.ps i) (s.ps i)
 rw_:∀i,i<l.len→(s.ps i).body.Rw u (fun c=>w.heap.size≤c∧c<u.heap.size)
theorem Pf.done {w:World}{l:Fl}{sv:Value}{F:Nat→Fc}{u:World}(h:Pf w l l.len sv F u):∃s:Fl,sv=.slice s.ao s.len s.cap∧PlF w l s u:=by
 have hrow:=h.row;obtain⟨hx,⟨rfl,h0⟩ | ⟨g,cap,cur,rfl,hg,hh,hr⟩⟩:=hrow
 ·exact⟨⟨none,0,0,0,0,F⟩,rfl,⟨by show 0=l.len;omega,fun hp=>absurd hp (Nat.lt_irrefl _),fun i hi=>absurd hi (Nat.not_lt_zero _),fun i hi=>absurd hi (by omega),fun i hi=>absurd hi (by omega)⟩⟩
 ·have ho:=h.row;refine⟨⟨some ⟨g,0,none⟩,g,0,l.len,cap,F⟩,rfl,⟨rfl,fun _=>rfl,fun i hi j v hv=>?_,h.eq,fun i hi=>(h.rw_ i hi).agree (fun _ _=>rfl) (fun c hc=>hc.1)⟩⟩;have hj:j<16:=by rw[←zo6 (F i)];exact (List.getElem?_eq_some_iff.1 hv).1
  show u.cell? ⟨g,0+i*16+j,none⟩=some v
  have hi':i<l.len:=hi;rw[Nat.zero_add,ho.cellAt (i*16+j) (by omega)];rw[zh3 (fun i=>zo6 (F i)) l.len i j hi' hj];exact hv
theorem zkm (l:Fl)(w:World)(hl:l.At w)(h70:l.len≤70)(hz:∀i,i<l.len→(l.ps i).body.szd):Calls Tryz.prog 8 #[.slice l.ao l.len l.cap] w fun e w'=>∃s:Fl,e=.returned (.slice s.ao s.len s.cap)∧PlF w l s w'∧Below w.heap.size w w':=by
 have HH:=hid (show l.At w∧l.len≤70∧(∀i,i<l.len→(l.ps i).body.szd) from ⟨hl,h70,hz⟩);have hnil:0<l.len→l.ao=some ⟨l.b,l.o,none⟩:=hl.nil;have hbd:l.len≤9223372036854775807:=hl.bound;obtain⟨i0,hi,hz0,hz1,hz2⟩:=info_parts Tryz.infoRf;have HX:=hid (show Tryz.prog.info? 53=some i0∧i0.zero=some (.agg zFv.toArray)∧i0.size=16∧i0.bytes=208 from ⟨hi,hz0,hz1,hz2⟩);clear hl h70 hz hi hz0 hz1 hz2;generalize hlen:l.len=len at *;have HL:Hid (l.len=len):=hlen;clear hlen;generalize l.ao=ao at *;generalize l.cap=cap at *;go_enter Tryz.func8,Tryz.ntmps8
 go_wp2;go_loopw [3,4] (fun sv i wr=>∃(k:Nat) (F:Nat→Fc),k≤len∧i=.int .i64 k∧Pf w l k sv F wr) (fun _ i _=>len - (intOf i).toNat)
 case atStart=>exact⟨0,fun _=>⟨.dm,.dm,.dm,0,0,.dm,Ns.nl,0⟩,Nat.zero_le _,rfl,⟨Below.refl _ _,World.ownsRow_nil _ _ _ _,fun i hi=>absurd hi (Nat.not_lt_zero _),fun i hi=>absurd hi (Nat.not_lt_zero _)⟩⟩
 case round =>
  obtain⟨k,F,hk,rfl,hP⟩:=hrel;have HP:=hid hP;clear hP;obtain⟨as7,cs7,hsv⟩:=zj2 HP.out.row;subst hsv;by_cases hlt:k<len
  ·have ij:(k:Int)<len:=by omega
   have a0:=hnil (by omega);subst a0;have hlt':k<l.len:=by rw[HL.out];exact hlt
   have rN:wr.rangeAt l.b (l.o+k*16) (l.ps k).vs:=(HH.out.1.kept HP.out.bl).cells k hlt';have HN:=hid (show (l.ps k).At w∧(l.ps k).body.szd from ⟨HH.out.1.part k hlt',HH.out.2.2 k hlt⟩);clear hlt';generalize hf:l.ps k=f at *;have HFE:=hid hf;clear hf;have hN:=zac wr (.cells f.vs.toArray 41);have HB:=hid (show Below wr.heap.size wr (wr.alloc (.cells f.vs.toArray 41))∧Blk (wr.alloc (.cells f.vs.toArray 41)) wr.heap.size f.vs 41 from ⟨hN,Blk.new wr _ _⟩);clear hN;go_upto_region 6 with (first | (refine wpList_load_mid rfl 41 (.tmp 14) rfl l.b (l.o+k*16) (by kernel_rfl) f.vs _ rN Tryz.underlying41 rfl (by kernel_rfl) ?_) | (refine zao rfl rfl 41 rfl (.tmp 5) (.tmp 15) rfl zFv (zf5 _) rfl f.vs.toArray (by kernel_rfl) (by kernel_rfl) rfl (by kernel_rfl) (by simpa using f.va_one) ?_))
   clear rN;generalize (wr.alloc (.cells f.vs.toArray 41))=w2 at *;simp only[Act.put,zA,zB,zC];have hdb:=(Below.refl w2.heap.size w2).drew;have HV0:=hid (show Below wr.heap.size wr w2.drew∧Blk w2.drew wr.heap.size f.vs 41 from ⟨Below.next HB.out.1 hdb,HB.out.2.kept hdb⟩);clear hdb HB;have r0:∀q,(∃x:Wd (fun q=>Blk q wr.heap.size f.vs 41),q=x.w)→q.rangeAt wr.heap.size 0 f.param.vs:=by rintro _ ⟨x,rfl⟩;exact zbm x.2 0 rfl rfl rfl rfl rfl
   have r5:∀q,(∃x:Wd (fun q=>Blk q wr.heap.size f.vs 41),q=x.w)→q.rangeAt wr.heap.size 5 f.result.vs:=by rintro _ ⟨x,rfl⟩;exact zbm x.2 5 rfl rfl rfl rfl rfl
   have p10:∀x:Wd (fun q=>Blk q wr.heap.size f.vs 41),x.w.cell? ⟨wr.heap.size,10,none⟩=some (.slice f.caps.ao f.caps.len f.caps.cap):=fun x=>x.2.cell 10 rfl;have p11:∀x:Wd (fun q=>Blk q wr.heap.size f.vs 41),x.w.cell? ⟨wr.heap.size,11,none⟩=some (.int .i64 f.heap):=fun x=>x.2.cell 11 rfl;have p12:∀x:Wd (fun q=>Blk q wr.heap.size f.vs 41),x.w.cell? ⟨wr.heap.size,12,none⟩=some (.int .i64 f.exc):=fun x=>x.2.cell 12 rfl;have p13:∀x:Wd (fun q=>Blk q wr.heap.size f.vs 41),x.w.cell? ⟨wr.heap.size,13,none⟩=some (.slice f.slots.ao f.slots.len f.slots.cap):=fun x=>x.2.cell 13 rfl;have p14:∀x:Wd (fun q=>Blk q wr.heap.size f.vs 41),x.w.cell? ⟨wr.heap.size,14,none⟩=some (.slice f.body.ao f.body.len f.body.cap):=fun x=>x.2.cell 14 rfl;have p15:∀x:Wd (fun q=>Blk q wr.heap.size f.vs 41),x.w.cell? ⟨wr.heap.size,15,none⟩=some (.int .i64 f.out):=fun x=>x.2.cell 15 rfl;have hNE:Nonempty (Wd (fun q=>Blk q wr.heap.size f.vs 41)):=⟨⟨_,HV0.out.2⟩⟩;refine zal (fun q=>Blk q wr.heap.size f.vs 41) [0,1,2,3,4,5,6,7,8,9,10,11,12,13,14,16,17] 5 (by kernel_rfl) rfl (by kernel_rfl) (zbt (by kernel_rfl)) HV0.out.2 ?_;simp only[List.filterMap,zD,zE];generalize w2.drew=v0 at *;iterate 2 go_big_quiet_step (fail)
   go_big_quiet_want;refine zaa 38 (.tmp 17) rfl _ 0 (by kernel_rfl) f.param.vs _ r0 Tryz.underlying38 rfl (by kernel_rfl) ?_;simp only[Act.put,zA,zB,zC];go_big_quiet_on;go_big_quiet_step (fail)
   go_big_quiet_want;refine zaa 38 (.tmp 19) rfl _ 5 (by kernel_rfl) f.result.vs _ r5 Tryz.underlying38 rfl (by kernel_rfl) ?_;simp only[Act.put,zA,zB,zC];go_big_quiet_on;iterate 12 go_big_quiet_step (fail)
   refine wpQuiet_nil ?_;clear r0 r5 p10 p11 p12 p13 p14 p15 hNE;refine wpAnyH_ready (rs:=[15]) (by kernel_rfl) (by simp) ?_;refine AllReadyH.cons rfl (fun K hK=>?_) AllReadyH.nil;rw[if_pos (by rfl)];go_simp;refine (zqi f.body v0 (HN.out.1.body.kept (Below.next HP.out.bl HV0.out.1)) HN.out.2).mono ?_;rintro _ v2 ⟨s1,rfl,hq1,hb1,hr1⟩;have HV2:=hid (show Below wr.heap.size wr v2∧Blk v2 wr.heap.size f.vs 41∧f.body.eqv s1∧s1.Rw v2 (fun c=>wr.heap.size≤c∧c<v2.heap.size) from ⟨Below.next HV0.out.1 hb1,HV0.out.2.kept hb1,hq1,hr1.agree (fun _ _=>rfl) (fun c hc=>⟨Nat.le_trans HV0.out.1.size hc.1,hc.2⟩)⟩);refine hK.out _ _ HV2.out.2.1 (fun _=>?_);clear hK K hb1 hq1 hr1 HV0;refine wpAnyH_ready (rs:=[18]) (by kernel_rfl) (by simp) ?_;refine AllReadyH.cons rfl (fun K hK=>?_) AllReadyH.nil;rw[if_pos (by rfl)];refine zmb 53 #[(0,.tmp 18),(1,.tmp 20),(2,.tmp 22),(3,.tmp 24),(4,.tmp 26),(5,.tmp 28),(6,.tmp 31),(7,.tmp 33)] rfl _ (by kernel_rfl) (znw f s1 v2) ?_;refine hK.out _ _ HV2.out.2.1 (fun _=>?_);clear hK K;have HNN:=hid (show FeV (l.ps k) { f with body:=s1 }∧({ f with body:=s1 }:Fc).body.Rw v2 (fun c=>wr.heap.size≤c∧c<v2.heap.size) from ⟨by rw[HFE.out];exact⟨s1,rfl,HV2.out.2.2.1⟩,HV2.out.2.2.2⟩)
   generalize ({ f with body:=s1 }:Fc)=n2 at *;have hrn:=zmj n2 v2;have hb3:=zac v2 (.cells n2.vs.toArray 53);have HV3:=hid (show Below wr.heap.size wr (v2.alloc (.cells n2.vs.toArray 53))∧Blk (v2.alloc (.cells n2.vs.toArray 53)) wr.heap.size f.vs 41∧Blk (v2.alloc (.cells n2.vs.toArray 53)) v2.heap.size n2.vs 53∧n2.body.Rw (v2.alloc (.cells n2.vs.toArray 53)) (fun c=>wr.heap.size≤c∧c<(v2.alloc (.cells n2.vs.toArray 53)).heap.size) from ⟨Below.next HV2.out.1 hb3,HV2.out.2.1.kept hb3,Blk.new v2 _ _,HNN.out.2.agree (fun c hc=>hb3.block c hc.2) (fun c hc=>⟨hc.1,Nat.lt_of_lt_of_le hc.2 hb3.size⟩)⟩);refine wpAnyH_ready (rs:=[19]) (by kernel_rfl) (by simp) ?_;refine AllReadyH.cons rfl (fun K hK=>?_) AllReadyH.nil;rw[if_pos (by rfl)];refine zbe 33 1 #[(0,.tmp 34)] rfl #[(0,.agg n2.vs.toArray)] (by kernel_rfl) hrn ?_;refine hK.out _ _ HV3.out.2.1 (fun _=>?_);clear hK K hb3 hrn HV2;generalize (v2.alloc (.cells n2.vs.toArray 53))=v3 at *;generalize v2.heap.size=B2 at *;have HP3:=hid (HP.out.kept HV3.out.1);have hnew:∀j u,n2.vs[j]?=some u→v3.cell? ((⟨B2,0,none⟩:Addr).add j)=some u:=fun j u hu=>by
    rw[adp,Nat.zero_add];exact HV3.out.2.2.1.cell j hu
   refine wpAnyH_ready (rs:=[20]) (by kernel_rfl) (by simp) ?_;refine AllReadyH.cons rfl (fun K hK=>?_) AllReadyH.nil;rw[if_pos (by rfl)];refine wp_append_lies v3 (.tmp 16) (.tmp 35) 33 rfl w.heap.size 53 i0 _ 16 208 Tryz.underlying33 HX.out.1 HX.out.2.1 HX.out.2.2.1 HX.out.2.2.2 rfl (by decide) (.slice as7 k cs7) k (zbp (fun i=>(F i).vs) k) (by kernel_rfl) HP3.out.row ⟨B2,0,none⟩ 1 1 n2.vs (by kernel_rfl) rfl hnew (fun u hu=>List.all_eq_true.1 n2.va_one u hu) (by decide) (by have h1:=HH.out.2.1;unfold maxLen;omega) (by have h1:=HH.out.2.1;omega) (Nat.le_trans HP.out.bl.size HV3.out.1.size) v3.heap.size rfl ?_
   intro gg cap3 w8 hown8 hgrow hat hltg;have HPN:=hid (HP3.out.more n2 HNN.out.1 (HV3.out.2.2.2.agree (fun _ _=>rfl) (fun c hc=>⟨⟨Nat.le_trans HP.out.bl.size hc.1,hc.2⟩,fun e=>by have:=(owb HP.out.row e.symm).2;omega⟩)) hgrow hown8 hat)
   have HB8:=hid (zo5 HV3.out.2.1 hgrow (fun e=>by have:=(owb HP.out.row e.symm).2;omega))
   refine hK.out _ _ HB8.out (fun _=>?_);clear hK K hown8 hgrow hat hltg hnew HP3 HV3 HNN;refine wpAnyH_ready (rs:=[21]) (by kernel_rfl) (by simp) ?_;refine AllReadyH.cons rfl (fun K hK=>?_) AllReadyH.nil;rw[if_pos (by rfl)];go_simp;refine hK.out _ _ HB8.out (fun _=>?_);clear hK K;refine wpAnyH_done (by kernel_rfl) ?_ _;refine⟨(fun c hc=>by cases hc),?_⟩;go_wp2;go_roundw
   case rel=>exact⟨k+1,_,by omega,by go_num,HPN.out⟩
   case measure=>simp[intOf];omega
  ·have e2:k=len:=by omega
   subst e2;have d:¬(k:Int)<k:=by omega
   have HD:Hid (∃s:Fl,(.slice as7 k cs7:Value)=.slice s.ao s.len s.cap∧PlF w l s wr):=by
    have h:=HP.out;rw[←HL.out] at h ⊢;exact h.done
   go_wp2;obtain⟨s,hs,hq⟩:=HD.out;rw[hs];go_ret;exact⟨s,rfl,hq,HP.out.bl⟩
end
end Go.Proofs.YtgioppfoceddfaaGreat
