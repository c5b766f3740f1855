import Derived.Test.YtgioppfoceddfaaGreatP22
set_option maxRecDepth 100000
set_option maxHeartbeats 32000000
namespace Go.Proofs.YtgioppfoceddfaaGreat
section
open Go Go.RowKit
theorem Tryz.infoTyI:(Tryz.prog.info? 38).map (fun i=>(i.zero,i.size,i.bytes))=some (some (.agg zTv.toArray),5,56):=by kernel_rfl
theorem zu2 (s t:Ty):Instr.fill (fun i=>some (i*5,5)) (Array.map (fun x=>zTv[x % zTv.length]?.getD default) (Array.range 10)) [(0,Value.agg s.vs.toArray),(1,Value.agg t.vs.toArray)]=some (s.vs++t.vs).toArray:=by kernel_rfl
theorem zcc (s t:Ty)(w:World):(Instr.buildSlice 36 2 #[(0,.agg s.vs.toArray),(1,.agg t.vs.toArray)]).run Tryz.prog w=.ok (.slice (some ⟨w.heap.size,0,none⟩) 2 2) (w.alloc (.cells (s.vs++t.vs).toArray 38)):=by
 obtain⟨i0,hi,hz0,hz1,hz2⟩:=info_parts Tryz.infoTyI;simp[Instr.buildSlice,run_underlying Tryz.underlying36,sizeOf,typeInfo,hi,hz0,hz1,zeroValue,newRow,Value.cells,zu2]
def mkB (k l h e:Int)(B:Nat)(p q:Ty):Ty:=.mk k l h e (some ⟨B,0,none⟩) B 0 2 2 (fun i=>if i=0 then p else q)
theorem zga {w:World}{b o:Nat}{t:Ty}(h:w.rangeAt b o t.vs):C5 w b o t:=⟨h 0 _ rfl,h 1 _ rfl,h 2 _ rfl,h 3 _ rfl,h 4 _ rfl⟩
theorem zef {w:World}{k l h e:Int}{B:Nat}{p q:Ty}(hp:p.At w)(hq:q.At w)(hb:Blk w B (p.vs++q.vs) 38):(mkB k l h e B p q).At w:=by
  refine⟨fun _=>rfl,by decide,fun i hi=>?_⟩
  match i,hi with
  | 0,_=>exact⟨zga (fun j v hv=>hb.range j v (by
      replace hv:p.vs[j]?=some v:=hv
      rw [List.getElem?_append_left (by rcases Nat.lt_or_ge j p.vs.length with h1 | h1
                                        · exact h1
                                        · rw[List.getElem?_eq_none h1] at hv;cases hv)]
      exact hv)),hp⟩
  | 1,_=>exact⟨zga (fun j v hv=>by
      have:=hb.range (5+j) v (by
        rw[List.getElem?_append_right (by show p.vs.length≤5+j;simp[Ty.vs])]
        rw[show 5+j - p.vs.length=j by simp[Ty.vs]]
        exact hv)
      rw[show 0+1*5+j=0+(5+j) by omega]
      exact this),hq⟩
theorem mkB_same {k l h e:Int}{B:Nat}{p q:Ty}:(mkB k l h e B p q).same (mk2 k l h e p q)=true:=by
 rw[zbb];refine⟨⟨rfl,rfl,rfl,rfl,rfl⟩,fun i _=>?_⟩;show (if i=0 then p else q).same (if i=0 then p else q)=true
 exact same_refl _
theorem ziw {k l h e:Int}{p q:Ty}(hp:p.Nd)(hq:q.Nd):(mk2 k l h e p q).Nd:=by
 intro i hi;show (if i=0 then p else q).Nd
 split
 ·exact hp
 ·exact hq
theorem zbm {w:World}{B:Nat}{c:List Value}{ty:TypeId}{t:Ty}(h:Blk w B c ty)(o:Nat)(h0:c[o]?=some (.int .i64 t.k))(h1:c[o+1]?=some (.int .i64 t.l))(h2:c[o+2]?=some (.slice t.ao t.len t.cap))(h3:c[o+3]?=some (.int .i64 t.h))(h4:c[o+4]?=some (.int .i64 t.e)):w.rangeAt B o t.vs :=
 C5.row ⟨h.cell o h0,h.cell (o+1) h1,h.cell (o+2) h2,h.cell (o+3) h3,h.cell (o+4) h4⟩
theorem zlh (D:Nat)(n:Strs)(g:Grid)(f:Fc)(w:World)(hn:n.At w)(hg:g.At w)(hf:f.At w)(hD:D≤w.heap.size):Calls Tryz.prog 65 #[.agg #[.slice n.ao n.len n.cap,.slice g.ao g.len g.cap],.agg f.vs.toArray] w (zbh D (sigT n g f) w):=by
 have H:=zar [.cells #[.slice n.ao n.len n.cap,.slice g.ao g.len g.cap] 25,.cells f.vs.toArray 41,.cells #[.int .i64 0,.int .i64 0,.slice none 0 0,.int .i64 0,.int .i64 0] 38] w;have B0:=zap [.cells #[.slice n.ao n.len n.cap,.slice g.ao g.len g.cap] 25,.cells f.vs.toArray 41,.cells #[.int .i64 0,.int .i64 0,.slice none 0 0,.int .i64 0,.int .i64 0] 38] w;have SZ:=za9 [.cells #[.slice n.ao n.len n.cap,.slice g.ao g.len g.cap] 25,.cells f.vs.toArray 41,.cells #[.int .i64 0,.int .i64 0,.slice none 0 0,.int .i64 0,.int .i64 0] 38] w;simp only[List.foldl,List.length] at H B0 SZ;have HI:=hid (show Below w.heap.size w _∧Blk _ w.heap.size [.slice n.ao n.len n.cap,.slice g.ao g.len g.cap] 25∧Blk _ (w.heap.size+1) f.vs 41∧Blk _ (w.heap.size+2) zTv 38∧_=w.heap.size+3 from ⟨B0,H 0 (by simp),H 1 (by simp),H 2 (by simp),SZ⟩);have HH:=hid (show n.At w∧g.At w∧f.At w∧D≤w.heap.size from ⟨hn,hg,hf,hD⟩);clear H B0 SZ hn hg hf hD;go_enter Tryz.func65,Tryz.ntmps65
 go_upto_region 1 with fail
 generalize (((w.alloc (.cells #[.slice n.ao n.len n.cap,.slice g.ao g.len g.cap] 25)).alloc (.cells f.vs.toArray 41)).alloc (.cells #[.int .i64 0,.int .i64 0,.slice none 0 0,.int .i64 0,.int .i64 0] 38))=w1 at *;have l0:=HI.out.2.1.cell 0 rfl;have l1:=HI.out.2.1.cell 1 rfl;go_wp2_with fail
 refine (zj6 n g w1 (HH.out.1.kept HI.out.1) (HH.out.2.1.kept HI.out.1)).mono ?_;rintro _ w2 ⟨rfl,hb2⟩;have HI2:=hid (show Below w.heap.size w w2∧Blk w2 w.heap.size [.slice n.ao n.len n.cap,.slice g.ao g.len g.cap] 25∧Blk w2 (w.heap.size+1) f.vs 41∧Blk w2 (w.heap.size+2) zTv 38∧w.heap.size+3≤w2.heap.size from ⟨Below.next HI.out.1 hb2,HI.out.2.1.kept hb2,HI.out.2.2.1.kept hb2,HI.out.2.2.2.1.kept hb2,by have h1:=HI.out.2.2.2.2;have h2:=hb2.size;omega⟩)
 have HG:Hid (sigT n g f=zai n g (mk2 4 (botI n g) f.heap f.exc f.param f.result) (botI n g)):=by show _=_;rfl
 clear HI l0 l1 hb2;generalize botI n g=bt at *;have r0:w2.rangeAt (w.heap.size+1) 0 f.param.vs:=(zbm HI2.out.2.2.1 0 rfl rfl rfl rfl rfl);have r5:w2.rangeAt (w.heap.size+1) 5 f.result.vs:=(zbm HI2.out.2.2.1 5 rfl rfl rfl rfl rfl);have c11:=HI2.out.2.2.1.cell 11 (v:=.int .i64 f.heap) rfl;have c12:=HI2.out.2.2.1.cell 12 (v:=.int .i64 f.exc) rfl;have hsl:=zcc f.param f.result w2;have hb3:=zac w2 (.cells (f.param.vs++f.result.vs).toArray 38);have HB:=hid (show Below w2.heap.size w2 (w2.alloc (.cells (f.param.vs++f.result.vs).toArray 38))∧Blk (w2.alloc (.cells (f.param.vs++f.result.vs).toArray 38)) w2.heap.size (f.param.vs++f.result.vs) 38 from ⟨hb3,Blk.new w2 _ _⟩);have c11':=up hb3 c11;have c12':=up hb3 c12;have hb4:=zac (w2.alloc (.cells (f.param.vs++f.result.vs).toArray 38)) (.cells #[.int .i64 4,.int .i64 bt,.slice (some ⟨w2.heap.size,0,none⟩) 2 2,.int .i64 f.heap,.int .i64 f.exc] 38);have HB4:=hid (show Below w2.heap.size w2 ((w2.alloc (.cells (f.param.vs++f.result.vs).toArray 38)).alloc (.cells #[.int .i64 4,.int .i64 bt,.slice (some ⟨w2.heap.size,0,none⟩) 2 2,.int .i64 f.heap,.int .i64 f.exc] 38))∧Blk ((w2.alloc (.cells (f.param.vs++f.result.vs).toArray 38)).alloc (.cells #[.int .i64 4,.int .i64 bt,.slice (some ⟨w2.heap.size,0,none⟩) 2 2,.int .i64 f.heap,.int .i64 f.exc] 38)) w2.heap.size (f.param.vs++f.result.vs) 38∧Blk ((w2.alloc (.cells (f.param.vs++f.result.vs).toArray 38)).alloc (.cells #[.int .i64 4,.int .i64 bt,.slice (some ⟨w2.heap.size,0,none⟩) 2 2,.int .i64 f.heap,.int .i64 f.exc] 38)) (w2.heap.size+1) (mkB 4 bt f.heap f.exc w2.heap.size f.param f.result).vs 38 from ⟨Below.next hb3 hb4,HB.out.2.kept hb4,by
  have:=Blk.new (w2.alloc (.cells (f.param.vs++f.result.vs).toArray 38)) (mkB 4 bt f.heap f.exc w2.heap.size f.param f.result).vs 38;rw[alloc_size] at this;exact this⟩)
 clear hb3 hb4 HB;go_upto_region 3 with (first | (refine wpList_load_mid rfl 38 (.tmp 10) rfl (w.heap.size+1) 0 (by kernel_rfl) f.param.vs _ r0 Tryz.underlying38 rfl (by kernel_rfl) ?_) | (refine wpList_load_mid rfl 38 (.tmp 12) rfl (w.heap.size+1) 5 (by kernel_rfl) f.result.vs _ r5 Tryz.underlying38 rfl (by kernel_rfl) ?_) | (refine zd4 rfl 36 2 #[(0,.tmp 11),(1,.tmp 13)] rfl #[(0,.agg f.param.vs.toArray),(1,.agg f.result.vs.toArray)] (by kernel_rfl) hsl ?_))
 clear r0 r5 c11 c12 c11' c12' hsl;generalize ((w2.alloc (.cells (f.param.vs++f.result.vs).toArray 38)).alloc (.cells #[.int .i64 4,.int .i64 bt,.slice (some ⟨w2.heap.size,0,none⟩) 2 2,.int .i64 f.heap,.int .i64 f.exc] 38))=w4 at *;generalize w2.heap.size+1=B6 at *;have HT:=hid (show (mkB 4 bt f.heap f.exc w2.heap.size f.param f.result).At w4∧(mkB 4 bt f.heap f.exc w2.heap.size f.param f.result).Nd from (fun h=>⟨h,h.nd⟩) (zef ((HH.out.2.2.1.param.kept HI2.out.1).kept HB4.out.1) ((HH.out.2.2.1.result.kept HI2.out.1).kept HB4.out.1) HB4.out.2.1));have HS:Hid ((zai n g (mkB 4 bt f.heap f.exc w2.heap.size f.param f.result) bt).same (sigT n g f)=true):=by
  show _=_
  rw[HG.out];exact zch HT.out.2 (ziw HH.out.2.2.1.param.nd HH.out.2.2.1.result.nd) mkB_same
 have l0:=(HI2.out.2.1.kept HB4.out.1).cell 0 rfl;have l1:=(HI2.out.2.1.kept HB4.out.1).cell 1 rfl;have bT:=HB4.out.2.2;have hR:=zln D n g _ bt w4 ((HH.out.1.kept HI2.out.1).kept HB4.out.1) ((HH.out.2.1.kept HI2.out.1).kept HB4.out.1) HT.out.1;have HI4:=hid (show Below w.heap.size w w4∧Blk w4 (w.heap.size+2) zTv 38∧w.heap.size+3≤w4.heap.size from ⟨Below.next HI2.out.1 HB4.out.1,HI2.out.2.2.2.1.kept HB4.out.1,by have h1:=HI2.out.2.2.2.2;have h2:=HB4.out.1.size;omega⟩)
 clear HI2 HB4 HT;generalize mkB 4 bt f.heap f.exc w2.heap.size f.param f.result=T at *;go_wp2_with (refine wpList_load_mid rfl 38 (.tmp 6) rfl B6 0 (by kernel_rfl) T.vs _ bT.range Tryz.underlying38 rfl (by kernel_rfl) ?_)
 refine hR.mono ?_;rintro _ w5 ⟨u,rfl,uA,uB,uS,hb5⟩;have bZ:=HI4.out.2.1.kept hb5;have HU:=hid (show u.At w5∧u.Blk (fun b=>b<D∨w.heap.size+3≤b)∧u.same (sigT n g f)=true∧Below w.heap.size w w5 from ⟨uA,uB.mono (fun b h=>by have:=HI4.out.2.2;omega),zb4 _ _ _ uS HS.out,Below.next HI4.out.1 hb5⟩)
 have hD:=HH.out.2.2.2;clear hR l0 l1 bT uA uB uS hb5 HI4;go_wp2_with (refine zae rfl rfl 38 (.tmp 4) (.tmp 23) rfl (w.heap.size+2) u.vs (by kernel_rfl) (by kernel_rfl) u.vs_one bZ rfl (by kernel_rfl) ?_;intro w6 W2);have z0:=W2.blk.cell 0 (v:=.int .i64 u.k) rfl;have z1:=W2.blk.cell 1 (v:=.int .i64 u.l) rfl;have z2:=W2.blk.cell 2 (v:=.slice u.ao u.len u.cap) rfl;have z3:=W2.blk.cell 3 (v:=.int .i64 u.h) rfl;have z4:=W2.blk.cell 4 (v:=.int .i64 u.e) rfl;exact bodyPost_ret (v:=.agg u.vs.toArray) (by simp[results,Tryz.results65,go_sem,z0,z1,z2,z3,z4,Ty.vs]) rfl ⟨u,rfl,HU.out.1.wrote HU.out.2.1 W2 (by omega) (by omega),HU.out.2.1.mono (fun b h=>by omega),HU.out.2.2.1,W2.below (by omega) HU.out.2.2.2⟩
def cntL (f:Nat→Nat→Nat)(deep:Nat):Nat→Nat→Nat
 | 0,c=>c
 | k+1,c=>if 64<deep∨4096≤cntL f deep k c then 4097 else f k (cntL f deep k c)
def Nd.cnt:Nd→Nat→Nat→Nat
 | .dm=>fun _ c=>c+1
 | .mk _ _ _ _ bl _ bp _ _ _ el _ ep=>fun deep c=>cntL (fun i=>Nd.cnt (ep i) (deep+1)) (deep+1) el (cntL (fun i=>Nd.cnt (bp i) (deep+1)) (deep+1) bl (c+1))
def Ns.cnt (b:Ns)(deep c:Nat):Nat:=cntL (fun i=>(b.ps i).cnt deep) deep b.len c
theorem Nd.cnt_eq {w:World}:∀{n:Nd},n.At w→∀deep c,n.cnt deep c=n.el.cnt (deep+1) (n.bd.cnt (deep+1) (c+1))
 | .dm,h=>h.elim
 | .mk _ _ _ _ _ _ _ _ _ _ _ _ _,_=>fun _ _=>rfl
theorem zjx {f:Nat→Nat→Nat}{deep k m c:Nat}(h:64<deep∨4096≤cntL f deep k c)(hk:k<m):cntL f deep m c=4097:=by
 induction m with
 | zero=>omega
 | succ m ih =>
  show (if 64<deep∨4096≤cntL f deep m c then 4097 else f m (cntL f deep m c))=4097
  rw[if_pos];rcases h with h | h
  ·exact Or.inl h
  ·rcases Nat.lt_or_ge k m with h1 | h1
   ·exact Or.inr (by rw[ih h1];omega)
   ·have:k=m:=by omega
    subst this;exact Or.inr h
def zdp (b:Ns):Prop:=∀(deep c:Nat) (w:World),deep≤65→c≤4097→b.At w→b.cnt deep c≤4097∧Calls Tryz.prog 69 #[.slice b.ao b.len b.cap,.int .i64 deep,.int .i64 c] w fun e w'=>e=.returned (.int .i64 (b.cnt deep c:Nat))∧Below w.heap.size w w'
theorem zub {b:Ns}(ih:∀i,i<b.len→zdp (b.ps i).bd∧zdp (b.ps i).el)(deep c:Nat)(w:World)(hc:c≤4097)(hb:b.At w):∀k,k≤b.len→cntL (fun i=>(b.ps i).cnt deep) deep k c≤4097
 | 0,_=>hc
 | k+1,h=>by
  have h1:=zub ih deep c w hc hb k (by omega);show (if _ then 4097 else (b.ps k).cnt deep _)≤4097
  split
  ·omega
  ·rename_i hh
   rw[Nd.cnt_eq (hb.part k (by omega))];have h2:=(ih k (by omega)).1 (deep+1) (cntL (fun i=>(b.ps i).cnt deep) deep k c+1) w (by omega) (by omega) (hb.part k (by omega)).bd;have h3:=(ih k (by omega)).2 (deep+1) _ w (by omega) h2.1 (hb.part k (by omega)).el;exact h3.1
theorem zhi (b:Ns)(ih:∀i,i<b.len→zdp (b.ps i).bd∧zdp (b.ps i).el):zdp b:=by
 intro deep c w hd hc hb;have HC:=hid (fun k hk=>zub ih deep c w hc hb k hk);refine⟨HC.out b.len (Nat.le_refl _),?_⟩;have HH:=hid (show (∀i,i<b.len→zdp (b.ps i).bd∧zdp (b.ps i).el)∧b.At w from ⟨ih,hb⟩);have HG:Hid (b.cnt deep c=cntL (fun i=>(b.ps i).cnt deep) deep b.len c):=by show _=_;rfl
 have hnil:0<b.len→b.ao=some ⟨b.b,b.o,none⟩:=hb.nil;have hbd:b.len≤9223372036854775807:=hb.bound;have HI:=hid (Below.refl w.heap.size w);clear ih hb;generalize b.cnt deep c=R at *;generalize hlen:b.len=len at *;have HL:Hid (b.len=len):=hlen;clear hlen;generalize b.ao=ao at *;generalize b.cap=cap at *;go_enter Tryz.func69,Tryz.ntmps69
 go_wp2;go_loopw [2,11] (fun cv i wr=>∃(k m:Nat),k≤len∧i=.int .i64 k∧cv=.int .i64 m∧m=cntL (fun i=>(b.ps i).cnt deep) deep k c∧Below w.heap.size w wr) (fun _ i _=>len - (intOf i).toNat)
 case atStart=>exact⟨0,c,Nat.zero_le _,rfl,rfl,rfl,HI.out⟩
 case round =>
  clear HI;obtain⟨k,m,hk,rfl,rfl,hm,hB⟩:=hrel;have HM:=hid hm;have hm7:m≤4097:=by rw[hm];exact HC.out k hk
  have HI:=hid hB;clear hm hB;by_cases hlt:k<len
  ·have ij:(k:Int)<len:=by omega
   have a0:=hnil (by omega);subst a0;have hlt':k<b.len:=by rw[HL.out];exact hlt
   have rN:wr.rangeAt b.b (b.o+k*14) (b.ps k).vs:=(HH.out.2.kept HI.out).cells k hlt';have HN:=hid (show (b.ps k).At wr∧zdp (b.ps k).bd∧zdp (b.ps k).el from ⟨(HH.out.2.kept HI.out).part k hlt',HH.out.1 k hlt⟩);clear hlt';generalize hnd:b.ps k=nd at *;have HND:=hid hnd;clear hnd;have hN:=zac wr (.cells nd.vs.toArray 65);have HB:=hid (show Below w.heap.size w (wr.alloc (.cells nd.vs.toArray 65))∧Blk (wr.alloc (.cells nd.vs.toArray 65)) wr.heap.size nd.vs 65∧nd.At (wr.alloc (.cells nd.vs.toArray 65)) from ⟨Below.next HI.out hN,Blk.new wr _ _,HN.out.1.kept hN⟩);clear HI hN;go_upto_region 4 with (first | (refine wpList_load_mid rfl 65 (.tmp 13) rfl b.b (b.o+k*14) (by kernel_rfl) nd.vs _ rN Tryz.underlying65 rfl (by kernel_rfl) ?_) | (refine zao rfl rfl 65 rfl (.tmp 8) (.tmp 14) rfl zNv (zg7 _) rfl nd.vs.toArray (by kernel_rfl) (by kernel_rfl) rfl (by kernel_rfl) (by simpa using nd.va_one) ?_))
   clear rN;generalize (wr.alloc (.cells nd.vs.toArray 65))=w2 at *;generalize wr.heap.size=BN at *;simp only[Act.put,zA,zB,zC];by_cases hdeep:64<deep
   ·have d1:decide ((64:Int)<deep)=true:=by simp;omega
    have HR:Hid (R=4097):=by show _=_;rw[HG.out];exact zjx (k:=k) (Or.inl hdeep) hlt
    go_wp2;go_ret;exact⟨zat (by rw[HR.out];rfl),HB.out.1⟩
   ·have d1:decide ((64:Int)<deep)=false:=by simp;omega
    by_cases hfull:4096≤m
    ·have d2:decide ((4096:Int)≤m)=true:=by simp;omega
     have HR:Hid (R=4097):=by show _=_;rw[HG.out];exact zjx (k:=k) (Or.inr (by rw[←HM.out];exact hfull)) hlt
     go_wp2;go_ret;exact⟨zat (by rw[HR.out];rfl),HB.out.1⟩
    ·have d2:decide ((4096:Int)≤m)=false:=by simp;omega
     have c12:=HB.out.2.1.cell 12 (v:=.slice nd.bd.ao nd.bd.len nd.bd.cap) rfl;have h1:=HN.out.2.1 (deep+1) (m+1) w2 (by omega) (by omega) HB.out.2.2.bd;have h1c:=h1.2;have h1b:=h1.1;rw[Int.natCast_add,Int.natCast_add] at h1c;clear h1;go_wp2_with fail
     refine h1c.mono ?_;rintro _ w3 ⟨rfl,hb3⟩;have HB3:=hid (show Below w.heap.size w w3∧Blk w3 BN nd.vs 65∧nd.At w3 from ⟨Below.next HB.out.1 hb3,HB.out.2.1.kept hb3,HB.out.2.2.kept hb3⟩);obtain⟨m1,hm1⟩:∃y,y=nd.bd.cnt (deep+1) (m+1):=⟨_,rfl⟩;rw[←hm1] at h1b ⊢;have HM1:=hid hm1;clear hm1 h1c c12 hb3 HB;have c13:=HB3.out.2.1.cell 13 (v:=.slice nd.el.ao nd.el.len nd.el.cap) rfl;have h2:=HN.out.2.2 (deep+1) m1 w3 (by omega) h1b HB3.out.2.2.el;have h2c:=h2.2;rw[Int.natCast_add] at h2c;clear h2;go_wp2_with fail
     refine h2c.mono ?_;rintro _ w4 ⟨rfl,hb4⟩;have HB4:=hid (Below.next HB3.out.1 hb4);clear h2c c13 hb4 HB3;go_wp2;go_roundw
     case rel =>
      refine⟨k+1,_,by omega,by go_num,rfl,?_,HB4.out⟩;show _=(if 64<deep∨4096≤cntL (fun i=>(b.ps i).cnt deep) deep k c then 4097 else (b.ps k).cnt deep (cntL (fun i=>(b.ps i).cnt deep) deep k c))
      rw[←HM.out,if_neg (by omega),HND.out,Nd.cnt_eq HN.out.1,←HM1.out]
     case measure=>simp[intOf];omega
  ·have e2:k=len:=by omega
   subst e2;have d:¬(k:Int)<k:=by omega
   go_wp2;go_ret;exact⟨zat (by rw[HG.out,←HM.out]),HI.out⟩
theorem zqa:∀n:Nd,zdp n.bd∧zdp n.el:=by
 intro n
 induction n using Nd.ind with
 | h n ih1 ih2=>exact⟨zhi _ ih1,zhi _ ih2⟩
theorem zp5 (b:Ns):zdp b:=zhi b fun i _=>zqa (b.ps i)
theorem zp6 (b:Ns)(w:World)(hb:b.At w):Calls Tryz.prog 35 #[.slice b.ao b.len b.cap] w fun e w'=>e=.returned (.int .i64 (b.cnt 1 0:Nat))∧Below w.heap.size w w':=by
 have h:=(zp5 b 1 0 w (by omega) (by omega) hb).2;go_enter Tryz.func35,Tryz.ntmps35
 go_wp2_with fail
 refine Calls.mono h ?_;rintro _ w1 ⟨rfl,hb1⟩;go_wp2;go_ret;exact⟨rfl,hb1⟩
theorem zx3 (s t:Ty)(w:World)(hs:s.At w)(ht:t.At w)(hn:∀i,i<s.len→(s.ps i).nodes≤40)(v:Value)(hv:v=.slice s.ao s.len s.cap) :
  Calls Tryz.prog 68 #[v,.slice t.ao t.len t.cap,.func (.func 67) #[] #[]] w fun e w'=>e=.returned (.bool (decide (s.len=t.len)&&decide (∀i,i<s.len→(s.ps i).same (t.ps i)=true)))∧Below w.heap.size w w':=by
 subst hv;have HH:=hid (show s.At w∧t.At w∧(∀i,i<s.len→(s.ps i).nodes≤40) from ⟨hs,ht,hn⟩);have hnil:0<s.len→s.ao=some ⟨s.b,s.o,none⟩:=hs.nil;have hnit:0<t.len→t.ao=some ⟨t.b,t.o,none⟩:=ht.nil;have hbd:s.len≤9223372036854775807:=hs.bound;have HI:=hid (Below.refl w.heap.size w);clear hs ht hn;by_cases hl:s.len=t.len
 ·obtain⟨R,hR⟩:∃R,R=(decide (s.len=t.len)&&decide (∀i,i<s.len→(s.ps i).same (t.ps i)=true)):=⟨_,rfl⟩;rw[←hR];have HR:Hid (R=decide (∀i,i<s.len→(s.ps i).same (t.ps i)=true)):=by show _=_;rw[hR];simp[hl]
  have HLT:=hid hl;clear hR;rw[←hl] at hnit ⊢;clear hl;generalize hlen:s.len=len at *;have HL:Hid (s.len=len):=hlen;clear hlen;generalize s.ao=ao at *;generalize s.cap=cap at *;generalize t.ao=bo at *;generalize t.cap=dap at *;go_enter Tryz.func68,Tryz.ntmps68
  go_wp2;go_loopw [17] (fun i wr=>∃(k:Nat),k≤len∧i=.int .i64 k∧(∀i,i<k→(s.ps i).same (t.ps i)=true)∧Below w.heap.size w wr) (fun i _=>len - (intOf i).toNat)
  case atStart=>exact⟨0,Nat.zero_le _,rfl,fun i hi=>absurd hi (Nat.not_lt_zero _),HI.out⟩
  case round =>
   clear HI;obtain⟨k,hk,rfl,hall,hB⟩:=hrel;have HA:=hid hall;have HI:=hid hB;clear hall hB;by_cases hlt:k<len
   ·have ij:(k:Int)<len:=by omega
    have a0:=hnil (by omega);have b0:=hnit (by omega);subst a0 b0;have hlt1:k<s.len:=by rw[HL.out];exact hlt
    have hlt2:k<t.len:=by rw[←HLT.out];exact hlt
    have r1:wr.rangeAt s.b (s.o+k*5) (s.ps k).vs:=C5.row ((HH.out.1.kept HI.out).cells hlt1);have r2:wr.rangeAt t.b (t.o+k*5) (t.ps k).vs:=C5.row ((HH.out.2.1.kept HI.out).cells hlt2);have HP:=hid (show (s.ps k).At wr∧(t.ps k).At wr∧(s.ps k).pn≤1000 from ⟨(HH.out.1.kept HI.out).part hlt1,(HH.out.2.1.kept HI.out).part hlt2,by have:=HH.out.2.2 k hlt;rw[zeu] at this;omega⟩)
    have HAs:Hid (∀b,(b=(s.ps k).same (t.ps k))→(b=true→∀i,i<k+1→(s.ps i).same (t.ps i)=true)∧(b=false→R=false)):=by
     intro b hb;refine⟨fun h1 i hi=>?_,fun h1=>?_⟩
     ·rcases Nat.lt_or_ge i k with h2 | h2
      ·exact HA.out i h2
      ·have:i=k:=by omega
       subst this;rw[←hb];exact h1
     ·rw[HR.out,decide_eq_false_iff_not];intro hh;have:=hh k hlt;rw[←hb,h1] at this;cases this
    clear hlt1 hlt2;generalize s.ps k=x at *;generalize t.ps k=y at *;have bZ1:Blk (wr.alloc (.cells #[.int .i64 0,.int .i64 0,.slice none 0 0,.int .i64 0,.int .i64 0] 38)) wr.heap.size zTv 38:=Blk.new wr _ _;have hb1:=zac wr (.cells #[.int .i64 0,.int .i64 0,.slice none 0 0,.int .i64 0,.int .i64 0] 38);go_upto_region 6 with (first | (refine wpList_load_mid rfl 38 (.tmp 20) rfl s.b (s.o+k*5) (by kernel_rfl) x.vs _ r1 Tryz.underlying38 rfl (by kernel_rfl) ?_) | (refine zae rfl rfl 38 (.tmp 8) (.tmp 21) rfl wr.heap.size x.vs (by kernel_rfl) (by kernel_rfl) x.vs_one bZ1 rfl (by kernel_rfl) ?_;intro w2 W2))
    have HB2:=hid (show Below wr.heap.size wr w2∧Blk w2 wr.heap.size x.vs 38 from ⟨W2.below (Nat.le_refl _) hb1,W2.blk⟩);have r2':=zbx r2 HB2.out.1;clear bZ1 hb1 W2 r1 r2;have hb3:=zac w2 (.cells y.vs.toArray 38);have HB3:=hid (show Below wr.heap.size wr (w2.alloc (.cells y.vs.toArray 38))∧Blk (w2.alloc (.cells y.vs.toArray 38)) wr.heap.size x.vs 38∧Blk (w2.alloc (.cells y.vs.toArray 38)) w2.heap.size y.vs 38 from ⟨Below.next HB2.out.1 hb3,HB2.out.2.kept hb3,Blk.new w2 _ _⟩);clear hb3;go_upto_region 7 with (first | (refine wpList_load_mid rfl 38 (.tmp 24) rfl t.b (t.o+k*5) (by kernel_rfl) y.vs _ r2' Tryz.underlying38 rfl (by kernel_rfl) ?_) | (refine zao rfl rfl 38 rfl (.tmp 9) (.tmp 25) rfl zTv (alloc_ty _) rfl y.vs.toArray (by kernel_rfl) (by kernel_rfl) rfl (by kernel_rfl) (by simpa using y.vs_one) ?_))
    clear r2' HB2;generalize (w2.alloc (.cells y.vs.toArray 38))=w3 at *;have HBW:=hid HB3.out.1;generalize w2.heap.size=B9 at *;generalize wr.heap.size=B8 at HB3 ⊢;have b8:=HB3.out.2.1;have b9:=HB3.out.2.2;have hS:=zih x y w3 (HP.out.1.kept HBW.out) (HP.out.2.1.kept HBW.out) HP.out.2.2;go_wp2_with (first | (refine wpList_load_mid rfl 38 (.tmp 8) rfl B8 0 (by kernel_rfl) x.vs _ b8.range Tryz.underlying38 rfl (by kernel_rfl) ?_) | (refine wpList_load_mid rfl 38 (.tmp 9) rfl B9 0 (by kernel_rfl) y.vs _ b9.range Tryz.underlying38 rfl (by kernel_rfl) ?_))
    refine Calls.mono hS ?_;rintro _ w4 ⟨rfl,hb4⟩;have HB4:=hid (Below.next (Below.next HI.out HBW.out) hb4);clear hS b8 b9 hb4 HB3;have hAs:=HAs.out (x.same y) rfl;have HAS:=hid hAs;clear hAs HAs;generalize x.same y=bb at *;cases bb
    ·go_wp2;go_ret;exact⟨zab (HAS.out.2 (by simp)).symm,HB4.out⟩
    ·go_wp2;go_roundw
     case rel=>exact⟨k+1,by omega,by go_num,HAS.out.1 (by simp),HB4.out⟩
     case measure=>simp[intOf];omega
   ·have e2:k=len:=by omega
    subst e2;have d:¬(k:Int)<k:=by omega
    go_wp2;go_ret;exact⟨zab (by rw[HR.out];symm;rw[decide_eq_true_eq];exact HA.out),HI.out⟩
 ·have HF:Hid ((decide (s.len=t.len)&&decide (∀i,i<s.len→(s.ps i).same (t.ps i)=true))=false):=by show _=_;simp[hl]
  have dn:((s.len:Int) != t.len)=true:=by simp;omega
  go_enter Tryz.func68,Tryz.ntmps68
  go_wp2;go_ret;exact⟨zab HF.out.symm,HI.out⟩
def typ1 (n:Strs)(g:Grid)(f:Fc):Bool:=((decide (f.caps.len≤16)&&decide (f.slots.len≤250))&&decide (1+f.caps.len≤f.slots.len))&&((sigT n g f).k==4)
def typ2 (n:Strs)(g:Grid)(f:Fc):Bool:=decide (∀i,i<f.slots.len→okB n g (f.slots.ps i)=true)
def typ3 (f:Fc):Bool:=(f.slots.ps 0).same f.param&&decide (∀i,i<f.caps.len→(f.slots.ps (1+i)).same (f.caps.ps i)=true)
def zcf (n:Strs)(g:Grid)(f:Fc):Bool:=(typ1 n g f&&typ2 n g f)&&typ3 f
def zFv:List Value:=[.int .i64 0,.int .i64 0,.slice none 0 0,.int .i64 0,.int .i64 0,.int .i64 0,.int .i64 0,.slice none 0 0,.int .i64 0,.int .i64 0,.slice none 0 0,.int .i64 0,.int .i64 0,.slice none 0 0,.slice none 0 0,.int .i64 0]
theorem zf5 (w:World):(Instr.alloc 41 true (.tuple #[])).run Tryz.prog w=.ok (.pointer (some ⟨w.heap.size,0,none⟩)) (w.alloc (.cells zFv.toArray 41)):=by
 have hz:(Tryz.prog.info? 41).map (·.zero)=some (some (.agg zFv.toArray)):=by kernel_rfl
 cases hq:Tryz.prog.info? 41 with
 | none=>rw[hq] at hz;simp at hz
 | some i =>
  rw[hq] at hz;simp at hz
  simp[Instr.alloc,newVar,newRow,zeroValue,typeInfo,hq,hz,Value.cells,zFv]
structure Tw (w:World)(n:Strs)(g:Grid)(many:Int)(f:Fc)(u:World):Prop where
 bl:Below w.heap.size w u
 H:Blk u w.heap.size (shV n g many f) 55
 F:Blk u (w.heap.size+1) f.vs 41
theorem Tw.kept {w:World}{n:Strs}{g:Grid}{many:Int}{f:Fc}{u u':World}(h:Tw w n g many f u)(hb:Below u.heap.size u u'):Tw w n g many f u':=⟨Below.next h.bl hb,h.H.kept hb,h.F.kept hb⟩
theorem zue {n:Strs}{g:Grid}{t:Ty}(h:okB n g t=true):t.nodes≤40:=by
 unfold okB at h;rw[Bool.and_eq_true] at h;exact (zeq h.2).2
def capT (f:Fc):Ty:=.mk 0 0 0 0 (if f.slots.cap=1 then some ⟨f.slots.b,f.slots.o,none⟩ else some ⟨f.slots.b,f.slots.o+5,none⟩) f.slots.b (f.slots.o+5) f.caps.len (f.slots.cap - 1) (fun i=>f.slots.ps (1+i))
theorem zxp {f:Fc}{w:World}(h:f.At w)(hc:1+f.caps.len≤f.slots.len):(capT f).At w:=by
 refine⟨fun h0=>if_neg (by have:=h.lc;omega),by have:=h.slots.bound;omega,fun i hi=>?_⟩
 have hi':1+i<f.slots.len:=by omega
 have h1:=h.slots.cells hi';rw[show f.slots.o+(1+i)*5=f.slots.o+5+i*5 by omega] at h1;exact⟨h1,h.slots.part hi'⟩
theorem zol (u:Ty)(ρ:Operand→Value)(o:Oper)(x:Operand)(ho:o.op=.field 38 x 0)(hx:ρ x=.agg u.vs.toArray)(w:World):(execOp ρ o).run Tryz.prog w=.ok (.value (.int .i64 u.k)) w:=by
 unfold execOp;rw[ho];simp only[hx];show _=_
 kernel_rfl
theorem zkk {ops:Array Oper}{rest:List Oper}{o:Oper}{a:Act}{w:World}{Q:Exit→Act→World→Prop}(hw:Region.wanted o (yielded ops a.tmps)=true)(x:Operand)(ho:o.op=.field 38 x 0)(u:Ty)(hx:a.eval x=.agg u.vs.toArray)
  (h:wpList Tryz.prog ops Q rest (a.put o.dst (.int .i64 u.k)) w):wpList Tryz.prog ops Q (o :: rest) a w:=by
 refine zgu hw ?_;unfold Oper.wp;rw[zol u a.eval o x ho hx w];exact h
theorem zs1 (n:Strs)(g:Grid)(many:Int)(f:Fc)(w:World)(hn:n.At w)(hg:g.At w)(hf:f.At w)(hcl:f.caps.len≤1000000):Calls Tryz.prog 34 #[.agg (shV n g many f).toArray] w fun e w'=>e=.returned (.bool (zcf n g f))∧Below w.heap.size w w':=by
 have B0:=zac w (.cells (shV n g many f).toArray 55);have bH:Blk (w.alloc (.cells (shV n g many f).toArray 55)) w.heap.size (shV n g many f) 55:=Blk.new w _ _;have SZ:(w.alloc (.cells (shV n g many f).toArray 55)).heap.size=w.heap.size+1:=alloc_size _ _;have HH:=hid (show n.At w∧g.At w∧f.At w from ⟨hn,hg,hf⟩);have hsl:f.slots.len≤9223372036854775807:=hf.slots.bound;have hlc:f.slots.len≤f.slots.cap:=hf.lc;have r3:(w.alloc (.cells (shV n g many f).toArray 55)).rangeAt w.heap.size 3 f.vs:=fun i v hv=>by rw[Nat.add_comm 3 i];exact bH.cell (i+3) (by show f.vs[i]?=some v;exact hv)
 clear hn hg hf;go_enter Tryz.func34,Tryz.ntmps34
 go_upto_region 1 with fail
 generalize (w.alloc (.cells (shV n g many f).toArray 55))=w1 at *;have hb2:=zac w1 (.cells f.vs.toArray 41);have HI:=hid (show Tw w n g many f (w1.alloc (.cells f.vs.toArray 41)) from ⟨Below.next B0 hb2,bH.kept hb2,by rw[←SZ];exact Blk.new w1 _ _⟩)
 clear B0 bH hb2;go_upto_region 2 with (first | (refine wpList_load_mid rfl 41 (.tmp 7) rfl w.heap.size 3 (by kernel_rfl) f.vs _ r3 Tryz.underlying41 rfl (by kernel_rfl) ?_) | (refine zao rfl rfl 41 rfl (.tmp 3) (.tmp 8) rfl zFv (zf5 _) rfl f.vs.toArray (by kernel_rfl) (by kernel_rfl) rfl (by kernel_rfl) (by simpa using f.va_one) ?_))
 rw[SZ];clear r3 SZ;generalize (w1.alloc (.cells f.vs.toArray 41))=w2 at *;simp only[Act.put,zA,zB,zC];have c10:=HI.out.F.cell 10 (v:=.slice f.caps.ao f.caps.len f.caps.cap) rfl;have c13:=HI.out.F.cell 13 (v:=.slice f.slots.ao f.slots.len f.slots.cap) rfl;go_upto_region 3 with fail
 go_cut [37] (fun c wx=>c=.bool (!(typ1 n g f))∧Hid (Tw w n g many f wx))
 case first =>
  by_cases h1:16<f.caps.len
  ·have HF:Hid (typ1 n g f=false):=by show _=_;unfold typ1;rw[decide_eq_false (by omega)];rfl
   have d1:decide ((16:Int)<f.caps.len)=true:=by simp;omega
   go_wp2;go_meet
   case rel=>exact⟨by rw[HF.out];rfl,HI.out⟩
  have d1:decide ((16:Int)<f.caps.len)=false:=by simp;omega
  by_cases h2:250<f.slots.len
  ·have HF:Hid (typ1 n g f=false):=by show _=_;unfold typ1;rw[decide_eq_false (p:=f.slots.len≤250) (by omega)];simp
   have d2:decide ((250:Int)<f.slots.len)=true:=by simp;omega
   go_wp2;go_meet
   case rel=>exact⟨by rw[HF.out];rfl,HI.out⟩
  have d2:decide ((250:Int)<f.slots.len)=false:=by simp;omega
  by_cases h3:f.slots.len<1+f.caps.len
  ·have HF:Hid (typ1 n g f=false):=by show _=_;unfold typ1;rw[decide_eq_false (p:=1+f.caps.len≤f.slots.len) (by omega)];simp
   have d3:decide ((f.slots.len:Int)<1+f.caps.len)=true:=by simp;omega
   go_wp2;go_meet
   case rel=>exact⟨by rw[HF.out];rfl,HI.out⟩
  have d3:decide ((f.slots.len:Int)<1+f.caps.len)=false:=by simp;omega
  have HF:Hid (typ1 n g f=((sigT n g f).k==4)):=by show _=_;unfold typ1;rw[decide_eq_true (p:=f.caps.len≤16) (by omega),decide_eq_true (p:=f.slots.len≤250) (by omega),decide_eq_true (p:=1+f.caps.len≤f.slots.len) (by omega)];rfl
  have e0:=HI.out.H.cell 0 (v:=.slice n.ao n.len n.cap) rfl;have e1:=HI.out.H.cell 1 (v:=.slice g.ao g.len g.cap) rfl;have bF:=HI.out.F;have hS:=zlh 0 n g f w2 (HH.out.1.kept HI.out.bl) (HH.out.2.1.kept HI.out.bl) (HH.out.2.2.kept HI.out.bl) (by omega);clear h1 h2 h3;go_wp2_with (refine za0 (by kernel_rfl) 41 (.tmp 3) rfl (w.heap.size+1) 0 (by kernel_rfl) f.vs _ bF.range Tryz.underlying41 rfl (by kernel_rfl) ?_)
  refine Calls.mono hS ?_;rintro _ w3 ⟨u,rfl,uA,uB,uS,hb3⟩;have HB:=hid (show Tw w n g many f w3∧u.k=(sigT n g f).k from ⟨HI.out.kept hb3,zdn uS⟩);clear hS bF e0 e1 uA uB uS hb3;go_wp2_with (refine zkk (by kernel_rfl) (.tmp 34) rfl u (by kernel_rfl) ?_)
  go_meet
  case rel=>exact⟨by rw[HF.out,←HB.out.2];rfl,HB.out.1⟩
 case rest =>
  obtain⟨rfl,hI⟩:=hcut;clear HI c10 c13;have HI:=hid hI.out;clear hI;cases ht1:typ1 n g f
  ·have HF:Hid (zcf n g f=false):=by show _=_;unfold zcf;rw[ht1];rfl
   go_wp2;go_ret;exact⟨zab HF.out.symm,HI.out.bl⟩
  have HT:Hid (zcf n g f=(typ2 n g f&&typ3 f)∧f.caps.len≤16∧f.slots.len≤250∧1+f.caps.len≤f.slots.len):=by
   refine⟨by unfold zcf;rw[ht1];rfl,?_⟩
   unfold typ1 at ht1;simp only[Bool.and_eq_true,decide_eq_true_eq] at ht1;exact⟨ht1.1.1.1,ht1.1.1.2,ht1.1.2⟩
  clear ht1;have hao:=HH.out.2.2.slots.nil (by have:=HT.out.2.2.2;omega)
  have c13:=HI.out.F.cell 13 (v:=.slice f.slots.ao f.slots.len f.slots.cap) rfl;rw[hao] at c13;have HAO:=hid hao;clear hao;go_wp2;clear c13;go_loopw [41] (fun i wr=>∃(k:Nat),k≤f.slots.len∧i=.int .i64 k∧(∀i,i<k→okB n g (f.slots.ps i)=true)∧Tw w n g many f wr) (fun i _=>f.slots.len - (intOf i).toNat)
  case atStart=>exact⟨0,Nat.zero_le _,rfl,fun i hi=>absurd hi (Nat.not_lt_zero _),HI.out⟩
  case round =>
   clear HI;obtain⟨k,hk,rfl,hall,hI⟩:=hrel;have HA:=hid hall;have HI:=hid hI;clear hall hI;by_cases hlt:k<f.slots.len
   ·have ij:(k:Int)<f.slots.len:=by omega
    have r1:wr.rangeAt f.slots.b (f.slots.o+k*5) (f.slots.ps k).vs:=C5.row ((HH.out.2.2.slots.kept HI.out.bl).cells hlt);have HP:=hid (show (f.slots.ps k).At wr from (HH.out.2.2.slots.kept HI.out.bl).part hlt);have hN:=zac wr (.cells (f.slots.ps k).vs.toArray 38);have HB:=hid (show Tw w n g many f (wr.alloc (.cells (f.slots.ps k).vs.toArray 38))∧Blk (wr.alloc (.cells (f.slots.ps k).vs.toArray 38)) wr.heap.size (f.slots.ps k).vs 38∧(f.slots.ps k).At (wr.alloc (.cells (f.slots.ps k).vs.toArray 38)) from ⟨HI.out.kept hN,Blk.new wr _ _,HP.out.kept hN⟩);clear hN HI HP;go_upto_region 8 with (first | (refine wpList_load_mid rfl 38 (.tmp 43) rfl f.slots.b (f.slots.o+k*5) (by kernel_rfl) (f.slots.ps k).vs _ r1 Tryz.underlying38 rfl (by kernel_rfl) ?_) | (refine zao rfl rfl 38 rfl (.tmp 6) (.tmp 44) rfl zTv (alloc_ty _) rfl (f.slots.ps k).vs.toArray (by kernel_rfl) (by kernel_rfl) rfl (by kernel_rfl) (by simpa using (f.slots.ps k).vs_one) ?_))
    clear r1;generalize (wr.alloc (.cells (f.slots.ps k).vs.toArray 38))=w3 at *;generalize wr.heap.size=B6 at *;have e0:=HB.out.1.H.cell 0 (v:=.slice n.ao n.len n.cap) rfl;have e1:=HB.out.1.H.cell 1 (v:=.slice g.ao g.len g.cap) rfl;have b6:=HB.out.2.1;have hW:=zgs n g (f.slots.ps k) w3 (HH.out.1.kept HB.out.1.bl) (HH.out.2.1.kept HB.out.1.bl) HB.out.2.2;go_wp2_with (refine wpList_load_mid rfl 38 (.tmp 6) rfl B6 0 (by kernel_rfl) (f.slots.ps k).vs _ b6.range Tryz.underlying38 rfl (by kernel_rfl) ?_)
    refine Calls.mono hW ?_;rintro _ w4 ⟨rfl,hb4⟩;have HB4:=hid (HB.out.1.kept hb4);clear hW b6 e0 e1 hb4 HB;cases hok:okB n g (f.slots.ps k)
    ·have HF:Hid (zcf n g f=false):=by
      show _=_
      rw[HT.out.1];unfold typ2;rw[decide_eq_false (fun hh=>by have:=hh k hlt;rw[hok] at this;cases this)]
      rfl
     go_wp2;go_ret;exact⟨zab HF.out.symm,HB4.out.bl⟩
    ·have HOK:=hid hok;clear hok;go_wp2;go_roundw
     case rel =>
      refine⟨_,_,_,_,_,_,_,_,_,_,_,_,?_,rfl⟩;refine⟨k+1,by omega,by go_num,fun i hi=>?_,HB4.out⟩;rcases Nat.lt_or_ge i k with h2 | h2
      ·exact HA.out i h2
      ·have:i=k:=by omega
       subst this;exact HOK.out
     case measure=>simp[intOf];omega
   ·have e2:f.slots.len=k:=by omega
    have d:¬(k:Int)<f.slots.len:=by omega
    have HF:Hid (zcf n g f=((f.slots.ps 0).same f.param&&(decide ((capT f).len=f.caps.len)&&decide (∀i,i<(capT f).len→((capT f).ps i).same (f.caps.ps i)=true)))):=by
     show _=_
     rw[HT.out.1];unfold typ2 typ3;rw[decide_eq_true (fun i hi=>HA.out i (by omega)),Bool.true_and,decide_eq_true (p:=(capT f).len=f.caps.len) rfl,Bool.true_and];rfl
    have HNO:=hid (show (∀i,i<f.slots.len→(f.slots.ps i).nodes≤40) from fun i hi=>zue (HA.out i (by omega)));clear HA e2;go_upto_region 11 with fail
    have h1le:(1:Int)≤1+f.caps.len:=by omega
    have hcap:(1+f.caps.len:Int)≤f.slots.cap:=by have:=HT.out;omega
    have h0s:(0:Int)<f.slots.len:=by have:=HT.out;omega
    have hC0:∀q,(∃x:Gr wr,q=x.w)→q.rangeAt f.slots.b f.slots.o (f.slots.ps 0).vs:=by
     rintro _ ⟨x,rfl⟩;have:=C5.row (((HH.out.2.2.slots.kept HI.out.bl).kept x.bl).cells (i:=0) (by have:=HT.out;omega))
     rw[Nat.zero_mul,Nat.add_zero] at this;exact this
    have hC1:∀q,(∃x:Gr wr,q=x.w)→q.rangeAt (w.heap.size+1) 0 f.param.vs:=by rintro _ ⟨x,rfl⟩;exact zbm (HI.out.F.kept x.bl) 0 rfl rfl rfl rfl rfl
    have p13:∀x:Gr wr,x.w.cell? ⟨w.heap.size+1,13,none⟩=some (.slice (some ⟨f.slots.b,f.slots.o,none⟩) f.slots.len f.slots.cap):=fun x=>(HI.out.F.kept x.bl).cell 13 (by rw[←HAO.out];rfl)
    have p10:∀x:Gr wr,x.w.cell? ⟨w.heap.size+1,10,none⟩=some (.slice f.caps.ao f.caps.len f.caps.cap):=fun x=>(HI.out.F.kept x.bl).cell 10 rfl;have HSm:∀x:Gr wr,Calls Tryz.prog 67 #[.agg (f.slots.ps 0).vs.toArray,.agg f.param.vs.toArray] x.w fun e w'=>e=.returned (.bool ((f.slots.ps 0).same f.param))∧Below x.w.heap.size x.w w':=fun x=>zih _ _ x.w (((HH.out.2.2.slots.kept HI.out.bl).kept x.bl).part (i:=0) (by have:=HT.out;omega)) ((HH.out.2.2.param.kept HI.out.bl).kept x.bl) (by have:=HNO.out 0 (by have:=HT.out;omega);rw[zeu] at this;omega)
    obtain⟨b1,hb1⟩:∃y,y=(f.slots.ps 0).same f.param:=⟨_,rfl⟩;obtain⟨b2,hb2⟩:∃y,y=(decide ((capT f).len=f.caps.len)&&decide (∀i,i<(capT f).len→((capT f).ps i).same (f.caps.ps i)=true)):=⟨_,rfl⟩;have HEq:∀(x:Gr wr) (v:Value),v=.slice (capT f).ao (capT f).len (capT f).cap→Calls Tryz.prog 68 #[v,.slice f.caps.ao f.caps.len f.caps.cap,.func (.func 67) #[] #[]] x.w fun e w'=>e=.returned (.bool b2)∧Below x.w.heap.size x.w w':=fun x v hv=>(zx3 (capT f) f.caps x.w (zxp ((HH.out.2.2.kept HI.out.bl).kept x.bl) HT.out.2.2.2) ((HH.out.2.2.caps.kept HI.out.bl).kept x.bl) (fun i hi=>HNO.out (1+i) (by have h1:=HT.out.2.2.2;have h2:i<f.caps.len:=hi;omega)) v hv).mono fun e w' h=>⟨by rw[h.1,hb2],h.2⟩
    have hNE:Nonempty (Gr wr):=⟨⟨_,Below.refl _ _⟩⟩;rw[←hb1] at HSm HF;rw[←hb2] at HF;clear hb1 hb2;refine zag (by kernel_rfl) (by kernel_rfl) ?_;iterate 3 go_big_quiet_step (fail)
    go_big_quiet_want;refine zaa 38 (.tmp 53) rfl f.slots.b f.slots.o (by kernel_rfl) (f.slots.ps 0).vs _ hC0 Tryz.underlying38 rfl (by kernel_rfl) ?_;simp only[Act.put,zA,zB,zC];go_big_quiet_on;go_big_quiet_step (fail)
    go_big_quiet_want;refine zaa 38 (.tmp 55) rfl _ 0 (by kernel_rfl) f.param.vs _ hC1 Tryz.underlying38 rfl (by kernel_rfl) ?_;simp only[Act.put,zA,zB,zC];go_big_quiet_on;cases b1
    ·go_big_quiet_step ((go_at_call 67;exact Calls.gr _ (HSm _)))
     repeat go_big_quiet_step (fail)
     refine wpQuiet_nil ?_;rintro w4 ⟨x4,rfl⟩;have B5:=x4.bl;generalize x4.w=w4 at B5 ⊢;go_wp2;go_ret;exact⟨zab (by rw[HF.out];rfl),Below.next HI.out.bl B5⟩
    ·go_big_quiet_step ((go_at_call 67;exact Calls.gr _ (HSm _)))
     repeat go_big_quiet_step ((first | (go_at_call 68;exact Calls.gr _ (HEq _ _ (by kernel_rfl)))))
     refine wpQuiet_nil ?_;rintro w4 ⟨x4,rfl⟩;have B5:=x4.bl;generalize x4.w=w4 at B5 ⊢;go_wp2
     all_goals go_ret
     all_goals exact⟨zab (by rw[HF.out];rfl),Below.next HI.out.bl B5⟩
end
end Go.Proofs.YtgioppfoceddfaaGreat
