import Derived.Test.YtgioppfoceddfaaGreatP32
import Derived.Test.YtgioppfoceddfaaGreatP26
import Derived.Test.YtgioppfoceddfaaGreatP29
set_option maxRecDepth 100000
set_option maxHeartbeats 32000000
namespace Go.Proofs.YtgioppfoceddfaaGreat
section
open Go Go.RowKit
def ndD (op:Int):Bool:=decide (1≤op)&&decide (op≤13)||op==17
def ndA (op:Int):Bool:=decide (3≤op)&&decide (op≤8)||decide (11≤op)&&decide (op≤16)||op==18
def ndB (op:Int):Bool:=op==4||op==6||op==11||op==14
theorem zvg (w:World):Calls Tryz.prog 108 #[.int .i64 1] w fun e w'=>e=.returned (.tuple #[.bool (ndD 1),.bool (ndA 1),.bool (ndB 1)])∧w'=w:=by
 go_enter Tryz.func108,Tryz.ntmps108
 go_wp2;exact bodyPost_ret (v:=.tuple #[.bool (ndD 1),.bool (ndA 1),.bool (ndB 1)]) (by kernel_rfl) rfl ⟨rfl,rfl⟩
theorem zux (w:World):Calls Tryz.prog 108 #[.int .i64 2] w fun e w'=>e=.returned (.tuple #[.bool (ndD 2),.bool (ndA 2),.bool (ndB 2)])∧w'=w:=by
 go_enter Tryz.func108,Tryz.ntmps108
 go_wp2;exact bodyPost_ret (v:=.tuple #[.bool (ndD 2),.bool (ndA 2),.bool (ndB 2)]) (by kernel_rfl) rfl ⟨rfl,rfl⟩
theorem zvv (w:World):Calls Tryz.prog 108 #[.int .i64 3] w fun e w'=>e=.returned (.tuple #[.bool (ndD 3),.bool (ndA 3),.bool (ndB 3)])∧w'=w:=by
 go_enter Tryz.func108,Tryz.ntmps108
 go_wp2;exact bodyPost_ret (v:=.tuple #[.bool (ndD 3),.bool (ndA 3),.bool (ndB 3)]) (by kernel_rfl) rfl ⟨rfl,rfl⟩
theorem zuz (w:World):Calls Tryz.prog 108 #[.int .i64 4] w fun e w'=>e=.returned (.tuple #[.bool (ndD 4),.bool (ndA 4),.bool (ndB 4)])∧w'=w:=by
 go_enter Tryz.func108,Tryz.ntmps108
 go_wp2;exact bodyPost_ret (v:=.tuple #[.bool (ndD 4),.bool (ndA 4),.bool (ndB 4)]) (by kernel_rfl) rfl ⟨rfl,rfl⟩
theorem zu4 (w:World):Calls Tryz.prog 108 #[.int .i64 5] w fun e w'=>e=.returned (.tuple #[.bool (ndD 5),.bool (ndA 5),.bool (ndB 5)])∧w'=w:=by
 go_enter Tryz.func108,Tryz.ntmps108
 go_wp2;exact bodyPost_ret (v:=.tuple #[.bool (ndD 5),.bool (ndA 5),.bool (ndB 5)]) (by kernel_rfl) rfl ⟨rfl,rfl⟩
theorem zvy (w:World):Calls Tryz.prog 108 #[.int .i64 6] w fun e w'=>e=.returned (.tuple #[.bool (ndD 6),.bool (ndA 6),.bool (ndB 6)])∧w'=w:=by
 go_enter Tryz.func108,Tryz.ntmps108
 go_wp2;exact bodyPost_ret (v:=.tuple #[.bool (ndD 6),.bool (ndA 6),.bool (ndB 6)]) (by kernel_rfl) rfl ⟨rfl,rfl⟩
theorem zul (w:World):Calls Tryz.prog 108 #[.int .i64 7] w fun e w'=>e=.returned (.tuple #[.bool (ndD 7),.bool (ndA 7),.bool (ndB 7)])∧w'=w:=by
 go_enter Tryz.func108,Tryz.ntmps108
 go_wp2;exact bodyPost_ret (v:=.tuple #[.bool (ndD 7),.bool (ndA 7),.bool (ndB 7)]) (by kernel_rfl) rfl ⟨rfl,rfl⟩
theorem zu1 (w:World):Calls Tryz.prog 108 #[.int .i64 8] w fun e w'=>e=.returned (.tuple #[.bool (ndD 8),.bool (ndA 8),.bool (ndB 8)])∧w'=w:=by
 go_enter Tryz.func108,Tryz.ntmps108
 go_wp2;exact bodyPost_ret (v:=.tuple #[.bool (ndD 8),.bool (ndA 8),.bool (ndB 8)]) (by kernel_rfl) rfl ⟨rfl,rfl⟩
theorem zvw (w:World):Calls Tryz.prog 108 #[.int .i64 9] w fun e w'=>e=.returned (.tuple #[.bool (ndD 9),.bool (ndA 9),.bool (ndB 9)])∧w'=w:=by
 go_enter Tryz.func108,Tryz.ntmps108
 go_wp2;exact bodyPost_ret (v:=.tuple #[.bool (ndD 9),.bool (ndA 9),.bool (ndB 9)]) (by kernel_rfl) rfl ⟨rfl,rfl⟩
theorem zst (w:World):Calls Tryz.prog 108 #[.int .i64 10] w fun e w'=>e=.returned (.tuple #[.bool (ndD 10),.bool (ndA 10),.bool (ndB 10)])∧w'=w:=by
 go_enter Tryz.func108,Tryz.ntmps108
 go_wp2;exact bodyPost_ret (v:=.tuple #[.bool (ndD 10),.bool (ndA 10),.bool (ndB 10)]) (by kernel_rfl) rfl ⟨rfl,rfl⟩
theorem zsi (w:World):Calls Tryz.prog 108 #[.int .i64 11] w fun e w'=>e=.returned (.tuple #[.bool (ndD 11),.bool (ndA 11),.bool (ndB 11)])∧w'=w:=by
 go_enter Tryz.func108,Tryz.ntmps108
 go_wp2;exact bodyPost_ret (v:=.tuple #[.bool (ndD 11),.bool (ndA 11),.bool (ndB 11)]) (by kernel_rfl) rfl ⟨rfl,rfl⟩
theorem zr1 (w:World):Calls Tryz.prog 108 #[.int .i64 12] w fun e w'=>e=.returned (.tuple #[.bool (ndD 12),.bool (ndA 12),.bool (ndB 12)])∧w'=w:=by
 go_enter Tryz.func108,Tryz.ntmps108
 go_wp2;exact bodyPost_ret (v:=.tuple #[.bool (ndD 12),.bool (ndA 12),.bool (ndB 12)]) (by kernel_rfl) rfl ⟨rfl,rfl⟩
theorem zt0 (w:World):Calls Tryz.prog 108 #[.int .i64 13] w fun e w'=>e=.returned (.tuple #[.bool (ndD 13),.bool (ndA 13),.bool (ndB 13)])∧w'=w:=by
 go_enter Tryz.func108,Tryz.ntmps108
 go_wp2;exact bodyPost_ret (v:=.tuple #[.bool (ndD 13),.bool (ndA 13),.bool (ndB 13)]) (by kernel_rfl) rfl ⟨rfl,rfl⟩
theorem ztd (w:World):Calls Tryz.prog 108 #[.int .i64 14] w fun e w'=>e=.returned (.tuple #[.bool (ndD 14),.bool (ndA 14),.bool (ndB 14)])∧w'=w:=by
 go_enter Tryz.func108,Tryz.ntmps108
 go_wp2;exact bodyPost_ret (v:=.tuple #[.bool (ndD 14),.bool (ndA 14),.bool (ndB 14)]) (by kernel_rfl) rfl ⟨rfl,rfl⟩
theorem ztx (w:World):Calls Tryz.prog 108 #[.int .i64 15] w fun e w'=>e=.returned (.tuple #[.bool (ndD 15),.bool (ndA 15),.bool (ndB 15)])∧w'=w:=by
 go_enter Tryz.func108,Tryz.ntmps108
 go_wp2;exact bodyPost_ret (v:=.tuple #[.bool (ndD 15),.bool (ndA 15),.bool (ndB 15)]) (by kernel_rfl) rfl ⟨rfl,rfl⟩
theorem zsu (w:World):Calls Tryz.prog 108 #[.int .i64 16] w fun e w'=>e=.returned (.tuple #[.bool (ndD 16),.bool (ndA 16),.bool (ndB 16)])∧w'=w:=by
 go_enter Tryz.func108,Tryz.ntmps108
 go_wp2;exact bodyPost_ret (v:=.tuple #[.bool (ndD 16),.bool (ndA 16),.bool (ndB 16)]) (by kernel_rfl) rfl ⟨rfl,rfl⟩
theorem zrh (w:World):Calls Tryz.prog 108 #[.int .i64 17] w fun e w'=>e=.returned (.tuple #[.bool (ndD 17),.bool (ndA 17),.bool (ndB 17)])∧w'=w:=by
 go_enter Tryz.func108,Tryz.ntmps108
 go_wp2;exact bodyPost_ret (v:=.tuple #[.bool (ndD 17),.bool (ndA 17),.bool (ndB 17)]) (by kernel_rfl) rfl ⟨rfl,rfl⟩
theorem zsr (w:World):Calls Tryz.prog 108 #[.int .i64 18] w fun e w'=>e=.returned (.tuple #[.bool (ndD 18),.bool (ndA 18),.bool (ndB 18)])∧w'=w:=by
 go_enter Tryz.func108,Tryz.ntmps108
 go_wp2;exact bodyPost_ret (v:=.tuple #[.bool (ndD 18),.bool (ndA 18),.bool (ndB 18)]) (by kernel_rfl) rfl ⟨rfl,rfl⟩
theorem zql (op:Int)(h:op<1)(w:World):Calls Tryz.prog 108 #[.int .i64 op] w fun e w'=>e=.returned (.tuple #[.bool false,.bool false,.bool false])∧w'=w:=by
 have n (k:Int) (hk:1≤k):decide (k≤op)=false:=by simp;omega
 have q (k:Int) (hk:1≤k):(op==k)=false:=beqI (by omega);have n1:=n 1 (by omega);have n3:=n 3 (by omega);have n11:=n 11 (by omega);have q17:=q 17 (by omega);have q18:=q 18 (by omega);have q4:=q 4 (by omega);have q6:=q 6 (by omega);have q11:=q 11 (by omega);have q14:=q 14 (by omega);clear n q;go_enter Tryz.func108,Tryz.ntmps108
 go_wp2;exact bodyPost_ret (v:=.tuple #[.bool false,.bool false,.bool false]) (by kernel_rfl) rfl ⟨rfl,rfl⟩
theorem zok (op:Int)(h:18<op)(w:World):Calls Tryz.prog 108 #[.int .i64 op] w fun e w'=>e=.returned (.tuple #[.bool false,.bool false,.bool false])∧w'=w:=by
 have n (k:Int) (hk:k≤18):decide (k≤op)=true:=by simp;omega
 have m (k:Int) (hk:k≤18):decide (op≤k)=false:=by simp;omega
 have q (k:Int) (hk:k≤18):(op==k)=false:=beqI (by omega);have n1:=n 1 (by omega);have n3:=n 3 (by omega);have n11:=n 11 (by omega);have m13:=m 13 (by omega);have m8:=m 8 (by omega);have m16:=m 16 (by omega);have q17:=q 17 (by omega);have q18:=q 18 (by omega);have q4:=q 4 (by omega);have q6:=q 6 (by omega);have q11:=q 11 (by omega);have q14:=q 14 (by omega);clear n q m;go_enter Tryz.func108,Tryz.ntmps108
 go_wp2;exact bodyPost_ret (v:=.tuple #[.bool false,.bool false,.bool false]) (by kernel_rfl) rfl ⟨rfl,rfl⟩
theorem zti {op:Int}(h:op<1∨18<op):ndD op=false∧ndA op=false∧ndB op=false:=by
 unfold ndD ndA ndB;refine⟨?_,?_,?_⟩
 all_goals simp
 all_goals omega
theorem zp1 (op:Int)(w:World):Calls Tryz.prog 108 #[.int .i64 op] w fun e w'=>e=.returned (.tuple #[.bool (ndD op),.bool (ndA op),.bool (ndB op)])∧w'=w:=by
 rcases Int.lt_or_le op 1 with h | h
 ·obtain⟨e1,e2,e3⟩:=zti (Or.inl h);rw[e1,e2,e3];exact zql op h w
 rcases Int.lt_or_le 18 op with h2 | h2
 ·obtain⟨e1,e2,e3⟩:=zti (Or.inr h2);rw[e1,e2,e3];exact zok op h2 w
 have hc:op=1∨op=2∨op=3∨op=4∨op=5∨op=6∨op=7∨op=8∨op=9∨op=10∨op=11∨op=12∨op=13∨op=14∨op=15∨op=16∨op=17∨op=18:=by omega
 rcases hc with rfl | rfl | rfl | rfl | rfl | rfl | rfl | rfl | rfl | rfl | rfl | rfl | rfl | rfl | rfl | rfl | rfl | rfl
 ·exact zvg w
 ·exact zux w
 ·exact zvv w
 ·exact zuz w
 ·exact zu4 w
 ·exact zvy w
 ·exact zul w
 ·exact zu1 w
 ·exact zvw w
 ·exact zst w
 ·exact zsi w
 ·exact zr1 w
 ·exact zt0 w
 ·exact ztd w
 ·exact ztx w
 ·exact zsu w
 ·exact zrh w
 ·exact zsr w
def rndX (n:Strs)(m:Nat)(h:Hd):Bool:=((((decide (h.op<1)||decide (18<h.op))||(ndD h.op&&!wthB h.dst m))||(ndA h.op&&!wthB h.a m))||(ndB h.op&&!wthB h.b m))||!wthB h.env n.len
def rndY (n:Strs)(g:Grid)(many:Int)(m:Nat)(h:Hd)(x y:Bool):Bool :=
 if h.op=2 then (h.n==0||h.n==1) else if h.op=4 then (decide (6≤h.n)&&decide (h.n≤12)) else if h.op=9 then (decide (∀i,i<h.ar.len→wthB (h.ar.f i) m=true)&&wthB h.n many) else if h.op=12 then okB n g h.t else if h.op=15 then wthB h.n n.len
 else if h.op=16∨h.op=17 then (x&&y) else true
def rndB (n:Strs)(g:Grid)(many:Int)(m:Nat)(h:Hd)(x y:Bool):Bool:=!rndX n m h&&rndY n g many m h x y
theorem wth_two (k:Int):(k==0||k==1)=wthB k 2:=by
 unfold wthB;rw[Bool.eq_iff_iff];simp
 omega
theorem zw9 (n:Strs)(g:Grid)(many:Int)(m:Nat)(h:Hd)(x y:Bool):rndB n g many m h x y=shpB n g many m h x y:=by
 obtain⟨op,dst,a,b,k,env,t,ar⟩:=h;rcases Int.lt_or_le op 1 with h1 | h1
 ·have e1:rndX n m ⟨op,dst,a,b,k,env,t,ar⟩=true:=by simp[rndX,h1]
  have e2:needB n g many ⟨op,dst,a,b,k,env,t,ar⟩ x y=false:=by
   unfold needB;rw[if_neg (by show ¬op=2;omega),if_neg (by show ¬op=4;omega),if_neg (by show ¬op=9;omega),if_neg (by show ¬op=12;omega),if_neg (by show ¬op=15;omega),if_neg (by show ¬(op=16∨op=17);omega)]
   simp
   omega
  unfold rndB shpB;rw[e1,e2];simp
 rcases Int.lt_or_le 18 op with h2 | h2
 ·have e1:rndX n m ⟨op,dst,a,b,k,env,t,ar⟩=true:=by simp[rndX,h2]
  have e2:needB n g many ⟨op,dst,a,b,k,env,t,ar⟩ x y=false:=by
   unfold needB;rw[if_neg (by show ¬op=2;omega),if_neg (by show ¬op=4;omega),if_neg (by show ¬op=9;omega),if_neg (by show ¬op=12;omega),if_neg (by show ¬op=15;omega),if_neg (by show ¬(op=16∨op=17);omega)]
   simp
   omega
  unfold rndB shpB;rw[e1,e2];simp
 have hc:op=1∨op=2∨op=3∨op=4∨op=5∨op=6∨op=7∨op=8∨op=9∨op=10∨op=11∨op=12∨op=13∨op=14∨op=15∨op=16∨op=17∨op=18:=by omega
 have e9:decide (∀i,i<ar.len→wthB (ar.f i) m=true)=slotsB m ((List.range ar.len).map ar.f):=by
  unfold slotsB;rw[Bool.eq_iff_iff];simp
 clear h1 h2;rcases hc with rfl | rfl | rfl | rfl | rfl | rfl | rfl | rfl | rfl | rfl | rfl | rfl | rfl | rfl | rfl | rfl | rfl | rfl
 all_goals cases q1:wthB env n.len <;> cases q2:wthB dst m <;> cases q3:wthB a m <;> cases q4:wthB b m <;> simp[rndB,rndX,rndY,shpB,needB,Hd.rds,Hd.wrs,ndD,ndA,ndB,wth_two,e9,slotsB,q1,q2,q3,q4]
theorem Lt2.kept {n:Strs}{g:Grid}{w w':World}(h:Lt2 n g w)(hb:Below w.heap.size w w'):Lt2 n g w':=⟨h.nat.kept hb,h.gat.kept hb,h.fd,h.two,h.le,h.rows⟩
def f0 (B:Nat)(out:Int):Fc:=⟨leafT 1 0,leafT 1 0,leafT 0 0,0,-1,.mk 0 0 0 0 (some ⟨B,0,none⟩) B 0 1 1 (fun _=>leafT 1 0),Ns.nl,out⟩
theorem zmn {w:World}{B:Nat}{out:Int}(hb:Blk w B (leafT 1 0).vs 38):(f0 B out).At w:=by
 refine⟨zay _ _ _,zay _ _ _,zay _ _ _,⟨fun _=>rfl,by decide,fun i hi=>?_⟩,Ns.nl_at w,Nat.le_refl 1⟩;have h2:i=0:=by omega
 subst h2;exact⟨zga hb.range,zay _ _ _⟩
theorem f0_sf {n:Strs}{g:Grid}{w:World}(h:Lt2 n g w)(B:Nat)(out:Int):Sf n g (f0 B out) (fun _=>0):=by
 obtain⟨m,hm,hml,_⟩:=zh5 h.fd;have h0:0<n.len:=by rw[h.two];omega
 refine⟨h.fd,?_,rfl,Nat.le_refl 1,by show 1≤250;decide,fun _ _=>rfl,fun _ _=>h0,rfl,Nat.zero_le _,fun i hi=>absurd hi (Nat.not_lt_zero _)⟩
 rw[hm];exact zuo h.fd h0 h0 h0 hml
theorem zt7 {n:Strs}{g:Grid}{w:World}{B BF:Nat}{a b:Int}(h:Lt2 n g w)(hR:ChkR n g (fl1 BF (f0 B 0)) a b):b=0:=by
 obtain⟨m,hm,hml,hlow⟩:=zh5 h.fd;have hs:=f0_sf h B 0;have h0:0<n.len:=by rw[h.two];omega
 have hl:=hs.lf hm hml hlow BF;refine ((chk1 hR (by rw[hs.hld];rfl)).1 ?_).2
 show (jdg n g (fl1 BF (f0 B 0)) 0).ends (jdg n g (fl1 BF (f0 B 0)) 0).start=true
 have e:(jdg n g (fl1 BF (f0 B 0)) 0).start=⟨(m:Int),-1,fun i=>decide (i<1),false⟩:=by
  show (⟨botI n g,-1,fun i=>decide (i<1+0),false⟩:Sta)=_
  rw[hm]
 rw[e,hl.ends (o:=0) (rs:=0) hml (by show 0<1;omega) h0 rfl rfl (Or.inl rfl) rfl]
 show g.B (Jn g 0 m) 0=true
 rw[jn_ge h.fd h0 hml (hlow 0 h0)];exact zdv h.fd h0
theorem f0_no {n:Strs}{g:Grid}{w:World}{B BF:Nat}{a b:Int}(h:Lt2 n g w)(hR:ChkR n g (fl1 BF (f0 B (-1))) a b):b=11:=by
 have hs:=f0_sf h B (-1);exact ((chk1 hR (by rw[hs.hld];rfl)).2 rfl).2
theorem Tryz.infoFn:(Tryz.prog.info? 41).map (fun i=>(i.zero,i.size,i.bytes))=some (some (.agg zFv.toArray),16,208):=by kernel_rfl
theorem zwb (t:Fc):Instr.fill (fun i=>some (i*16,16)) (Array.map (fun x=>zFv[x % zFv.length]?.getD default) (Array.range 16)) [(0,Value.agg t.vs.toArray)]=some t.vs.toArray:=by kernel_rfl
theorem zei (t:Fc)(w:World):(Instr.buildSlice 26 1 #[(0,.agg t.vs.toArray)]).run Tryz.prog w=.ok (.slice (some ⟨w.heap.size,0,none⟩) 1 1) (w.alloc (.cells t.vs.toArray 41)):=by
 obtain⟨i0,hi,hz0,hz1,hz2⟩:=info_parts Tryz.infoFn;simp[Instr.buildSlice,run_underlying Tryz.underlying26,sizeOf,typeInfo,hi,hz0,hz1,zeroValue,newRow,Value.cells,zwb]
theorem zjk (w:World):Calls Tryz.prog 4 #[] w fun e w'=>e=.returned (.bool true)∧Below w.heap.size w w':=by
 have H:=zar [.cells (leafT 1 0).vs.toArray 38,.cells (leafT 1 0).vs.toArray 38,.cells (f0 (w.heap.size+1) 0).vs.toArray 41] w;have B0:=zap [.cells (leafT 1 0).vs.toArray 38,.cells (leafT 1 0).vs.toArray 38,.cells (f0 (w.heap.size+1) 0).vs.toArray 41] w;simp only[List.foldl] at H B0;have HI:=hid (show Below w.heap.size w _∧Blk _ (w.heap.size+1) (leafT 1 0).vs 38∧Blk _ (w.heap.size+2) (f0 (w.heap.size+1) 0).vs 41 from ⟨B0,H 1 (by simp),H 2 (by simp)⟩);clear H B0;replace HI:Hid (Below w.heap.size w (((w.alloc (.cells #[.int .i64 1,.int .i64 0,.slice none 0 0,.int .i64 0,.int .i64 0] 38)).alloc (.cells #[.int .i64 1,.int .i64 0,.slice none 0 0,.int .i64 0,.int .i64 0] 38)).alloc (.cells #[.int .i64 1,.int .i64 0,.slice none 0 0,.int .i64 0,.int .i64 0,.int .i64 1,.int .i64 0,.slice none 0 0,.int .i64 0,.int .i64 0,.slice none 0 0,.int .i64 0,.int .i64 (-1),.slice (some ⟨w.heap.size+1,0,none⟩) 1 1,.slice none 0 0,.int .i64 0] 41))∧Blk (((w.alloc (.cells #[.int .i64 1,.int .i64 0,.slice none 0 0,.int .i64 0,.int .i64 0] 38)).alloc (.cells #[.int .i64 1,.int .i64 0,.slice none 0 0,.int .i64 0,.int .i64 0] 38)).alloc (.cells #[.int .i64 1,.int .i64 0,.slice none 0 0,.int .i64 0,.int .i64 0,.int .i64 1,.int .i64 0,.slice none 0 0,.int .i64 0,.int .i64 0,.slice none 0 0,.int .i64 0,.int .i64 (-1),.slice (some ⟨w.heap.size+1,0,none⟩) 1 1,.slice none 0 0,.int .i64 0] 41)) (w.heap.size+1) (leafT 1 0).vs 38∧Blk (((w.alloc (.cells #[.int .i64 1,.int .i64 0,.slice none 0 0,.int .i64 0,.int .i64 0] 38)).alloc (.cells #[.int .i64 1,.int .i64 0,.slice none 0 0,.int .i64 0,.int .i64 0] 38)).alloc (.cells #[.int .i64 1,.int .i64 0,.slice none 0 0,.int .i64 0,.int .i64 0,.int .i64 1,.int .i64 0,.slice none 0 0,.int .i64 0,.int .i64 0,.slice none 0 0,.int .i64 0,.int .i64 (-1),.slice (some ⟨w.heap.size+1,0,none⟩) 1 1,.slice none 0 0,.int .i64 0] 41)) (w.heap.size+2) (f0 (w.heap.size+1) 0).vs 41):=HI;go_enter Tryz.func4,Tryz.ntmps4
 go_upto_region 3 with fail
 generalize (((w.alloc (.cells #[.int .i64 1,.int .i64 0,.slice none 0 0,.int .i64 0,.int .i64 0] 38)).alloc (.cells #[.int .i64 1,.int .i64 0,.slice none 0 0,.int .i64 0,.int .i64 0] 38)).alloc (.cells #[.int .i64 1,.int .i64 0,.slice none 0 0,.int .i64 0,.int .i64 0,.int .i64 1,.int .i64 0,.slice none 0 0,.int .i64 0,.int .i64 0,.slice none 0 0,.int .i64 0,.int .i64 (-1),.slice (some ⟨w.heap.size+1,0,none⟩) 1 1,.slice none 0 0,.int .i64 0] 41))=w1 at *;go_cut [4] (fun b wx=>∃rb:Int,b=.int .i64 rb∧rb=0∧Hid (Below w.heap.size w wx∧Blk wx (w.heap.size+1) (leafT 1 0).vs 38∧Blk wx (w.heap.size+2) (f0 (w.heap.size+1) 0).vs 41))
 case first =>
  have hCF:∀q,(∃x:Wd (fun q=>Below w1.heap.size w1 q),q=x.w)→q.rangeAt (w.heap.size+2) 0 (f0 (w.heap.size+1) 0).vs:=by rintro _ ⟨x,rfl⟩;exact (HI.out.2.2.kept x.2).range
  have hNE:Nonempty (Wd (fun q=>Below w1.heap.size w1 q)):=⟨⟨_,Below.refl _ _⟩⟩;refine zal (fun q=>Below w1.heap.size w1 q) [1] 8 (by kernel_rfl) rfl (by kernel_rfl) (zbt (by kernel_rfl)) ((Below.refl _ _).drew) ?_;simp only[List.filterMap,zD,zE];go_big_quiet_want;refine zaa 41 (.tmp 2) rfl _ 0 (by kernel_rfl) (f0 (w.heap.size+1) 0).vs _ hCF Tryz.underlying41 rfl (by kernel_rfl) ?_;simp only[Act.put,zA,zB,zC];go_big_quiet_on;refine wpQuiet_nil ?_;have HV0:=hid (show Below w1.heap.size w1 w1.drew from (Below.refl _ _).drew);generalize w1.drew=v0 at *;refine wpAnyH_ready (rs:=[0,2]) (by kernel_rfl) (by simp) ?_;refine AllReadyH.cons rfl (fun K hK=>?_) (AllReadyH.cons rfl (fun K hK=>?_) AllReadyH.nil)
  ·rw[if_pos (by rfl)];go_simp;refine (zgk v0).mono ?_;rintro _ v1 ⟨n,g,rfl,hL,hb9⟩;have HV1:=hid (Below.next HV0.out hb9);have HL2:=hid hL;refine hK.out _ _ HV1.out (fun _=>?_);clear hK K hb9 hL;refine wpAnyH_ready (rs:=[2]) (by kernel_rfl) (by simp) ?_;refine AllReadyH.cons rfl (fun K hK=>?_) AllReadyH.nil;rw[if_pos (by rfl)];have hrn:=zei (f0 (w.heap.size+1) 0) v1;have hb9:=zac v1 (.cells (f0 (w.heap.size+1) 0).vs.toArray 41);have HFB:=hid (show Blk (v1.alloc (.cells (f0 (w.heap.size+1) 0).vs.toArray 41)) v1.heap.size (f0 (w.heap.size+1) 0).vs 41 from Blk.new v1 _ _);have HV2:=hid (Below.next HV1.out hb9);have HL3:=hid (show Lt2 n g _ from HL2.out.kept hb9);refine zbe 26 1 #[(0,.tmp 15)] rfl #[(0,.agg (f0 (w.heap.size+1) 0).vs.toArray)] (by kernel_rfl) hrn ?_;refine hK.out _ _ HV2.out (fun _=>?_);clear hK K hrn hb9;generalize (v1.alloc (.cells (f0 (w.heap.size+1) 0).vs.toArray 41))=v2 at *;generalize v1.heap.size=BF at *;refine wpAnyH_ready (rs:=[3]) (by kernel_rfl) (by simp) ?_;refine AllReadyH.cons rfl (fun K hK=>?_) AllReadyH.nil;rw[if_pos (by rfl)];go_simp;refine (zgj n g (fl1 BF (f0 (w.heap.size+1) 0)) v2 HL3.out.nat HL3.out.gat (zkw (zmn (HI.out.2.1.kept HV2.out)) HFB.out) (fun i _=>Nat.zero_le _) (fun k _ i hi=>absurd hi (Nat.not_lt_zero _))).mono ?_;rintro _ v9 ⟨ra,rb,rfl,hR,hb9⟩;have HV9:=hid (Below.next HV2.out hb9);have HRB:=hid (zt7 HL3.out hR);refine hK.out _ _ HV9.out (fun _=>?_);clear hK K hb9 hR;refine zam [4,5,6] (rest:=2) rfl (by kernel_rfl) (by kernel_rfl) HV9.out ?_;simp only[List.filterMap,zD,zE];go_big_quiet_step (fail)
   go_big_quiet_step (fail)
   go_big_quiet_step (fail)
   refine wpQuiet_nil ?_;refine wpAnyH_ready (rs:=[7]) (by kernel_rfl) (by simp) ?_;refine AllReadyH.cons rfl (fun K hK=>?_) AllReadyH.nil;rw[if_pos (by rfl)];go_simp;refine hK.out _ _ HV9.out (fun _=>?_);clear hK K;refine wpAnyH_ready (rs:=[8]) (by kernel_rfl) (by simp) ?_;refine AllReadyH.cons rfl (fun K hK=>?_) AllReadyH.nil;rw[if_pos (by rfl)];go_simp;refine hK.out _ _ HV9.out (fun _=>?_);clear hK K;refine wpAnyH_done (by kernel_rfl) ?_ _;refine⟨(fun c hc=>by cases hc),?_⟩;go_wp2;go_meet
   case rel=>exact⟨rb,rfl,HRB.out,⟨Below.next HI.out.1 HV9.out,HI.out.2.1.kept HV9.out,HI.out.2.2.kept HV9.out⟩⟩
  ·rw[if_pos (by rfl)];have hrn:=zei (f0 (w.heap.size+1) 0) v0;have hb9:=zac v0 (.cells (f0 (w.heap.size+1) 0).vs.toArray 41);have HFB:=hid (show Blk (v0.alloc (.cells (f0 (w.heap.size+1) 0).vs.toArray 41)) v0.heap.size (f0 (w.heap.size+1) 0).vs 41 from Blk.new v0 _ _);have HV1:=hid (Below.next HV0.out hb9);refine zbe 26 1 #[(0,.tmp 15)] rfl #[(0,.agg (f0 (w.heap.size+1) 0).vs.toArray)] (by kernel_rfl) hrn ?_;refine hK.out _ _ HV1.out (fun _=>?_);clear hK K hrn hb9;generalize (v0.alloc (.cells (f0 (w.heap.size+1) 0).vs.toArray 41))=v1 at *;generalize v0.heap.size=BF at *;refine wpAnyH_ready (rs:=[0]) (by kernel_rfl) (by simp) ?_;refine AllReadyH.cons rfl (fun K hK=>?_) AllReadyH.nil;rw[if_pos (by rfl)];go_simp;refine (zgk v1).mono ?_;rintro _ v2 ⟨n,g,rfl,hL,hb9⟩;have HBB:=hid hb9;have HV2:=hid (Below.next HV1.out hb9);have HL2:=hid hL;refine hK.out _ _ HV2.out (fun _=>?_);clear hK K hb9 hL;have HFC:=hid (HFB.out.kept HBB.out);refine wpAnyH_ready (rs:=[3]) (by kernel_rfl) (by simp) ?_;refine AllReadyH.cons rfl (fun K hK=>?_) AllReadyH.nil;rw[if_pos (by rfl)];go_simp;refine (zgj n g (fl1 BF (f0 (w.heap.size+1) 0)) v2 HL2.out.nat HL2.out.gat (zkw (zmn (HI.out.2.1.kept HV2.out)) HFC.out) (fun i _=>Nat.zero_le _) (fun k _ i hi=>absurd hi (Nat.not_lt_zero _))).mono ?_;rintro _ v9 ⟨ra,rb,rfl,hR,hb9⟩;have HV9:=hid (Below.next HV2.out hb9);have HRB:=hid (zt7 HL2.out hR);refine hK.out _ _ HV9.out (fun _=>?_);clear hK K hb9 hR;refine zam [4,5,6] (rest:=2) rfl (by kernel_rfl) (by kernel_rfl) HV9.out ?_;simp only[List.filterMap,zD,zE];go_big_quiet_step (fail)
   go_big_quiet_step (fail)
   go_big_quiet_step (fail)
   refine wpQuiet_nil ?_;refine wpAnyH_ready (rs:=[7]) (by kernel_rfl) (by simp) ?_;refine AllReadyH.cons rfl (fun K hK=>?_) AllReadyH.nil;rw[if_pos (by rfl)];go_simp;refine hK.out _ _ HV9.out (fun _=>?_);clear hK K;refine wpAnyH_ready (rs:=[8]) (by kernel_rfl) (by simp) ?_;refine AllReadyH.cons rfl (fun K hK=>?_) AllReadyH.nil;rw[if_pos (by rfl)];go_simp;refine hK.out _ _ HV9.out (fun _=>?_);clear hK K;refine wpAnyH_done (by kernel_rfl) ?_ _;refine⟨(fun c hc=>by cases hc),?_⟩;go_wp2;go_meet
   case rel=>exact⟨rb,rfl,HRB.out,⟨Below.next HI.out.1 HV9.out,HI.out.2.1.kept HV9.out,HI.out.2.2.kept HV9.out⟩⟩
 case rest =>
  obtain⟨rb,rfl,rfl,hI⟩:=hcut;clear HI;have HI0:=hid hI.out;clear hI;have x15:=HI0.out.2.2.cell 15 (v:=.int .i64 0) rfl;have g15:=HI0.out.2.2.frozen 15;go_upto_region 5 with fail
  have W1:=zbo (i:=15) HI0.out.2.2 (.int .i64 (-1));have HI:=hid (show Below w.heap.size w (wc.setCell ⟨w.heap.size+2,15,none⟩ (.int .i64 (-1)))∧Blk (wc.setCell ⟨w.heap.size+2,15,none⟩ (.int .i64 (-1))) (w.heap.size+1) (leafT 1 0).vs 38∧Blk (wc.setCell ⟨w.heap.size+2,15,none⟩ (.int .i64 (-1))) (w.heap.size+2) (f0 (w.heap.size+1) (-1)).vs 41 from ⟨W1.below (by omega) HI0.out.1,W1.keep HI0.out.2.1 (by omega),W1.blk⟩);clear W1 x15 g15 HI0;generalize (wc.setCell ⟨w.heap.size+2,15,none⟩ (.int .i64 (-1)))=w2 at *;go_cut [6] (fun b wx=>∃rb:Int,b=.int .i64 rb∧rb=11∧Hid (Below w.heap.size w wx∧Blk wx (w.heap.size+1) (leafT 1 0).vs 38∧Blk wx (w.heap.size+2) (f0 (w.heap.size+1) (-1)).vs 41))
  case first =>
   have hCF:∀q,(∃x:Wd (fun q=>Below w2.heap.size w2 q),q=x.w)→q.rangeAt (w.heap.size+2) 0 (f0 (w.heap.size+1) (-1)).vs:=by rintro _ ⟨x,rfl⟩;exact (HI.out.2.2.kept x.2).range
   have hNE:Nonempty (Wd (fun q=>Below w2.heap.size w2 q)):=⟨⟨_,Below.refl _ _⟩⟩;refine zal (fun q=>Below w2.heap.size w2 q) [1] 8 (by kernel_rfl) rfl (by kernel_rfl) (zbt (by kernel_rfl)) ((Below.refl _ _).drew) ?_;simp only[List.filterMap,zD,zE];go_big_quiet_want;refine zaa 41 (.tmp 2) rfl _ 0 (by kernel_rfl) (f0 (w.heap.size+1) (-1)).vs _ hCF Tryz.underlying41 rfl (by kernel_rfl) ?_;simp only[Act.put,zA,zB,zC];go_big_quiet_on;refine wpQuiet_nil ?_;have HV0:=hid (show Below w2.heap.size w2 w2.drew from (Below.refl _ _).drew);generalize w2.drew=v0 at *;refine wpAnyH_ready (rs:=[0,2]) (by kernel_rfl) (by simp) ?_;refine AllReadyH.cons rfl (fun K hK=>?_) (AllReadyH.cons rfl (fun K hK=>?_) AllReadyH.nil)
   ·rw[if_pos (by rfl)];go_simp;refine (zgk v0).mono ?_;rintro _ v1 ⟨n,g,rfl,hL,hb9⟩;have HV1:=hid (Below.next HV0.out hb9);have HL2:=hid hL;refine hK.out _ _ HV1.out (fun _=>?_);clear hK K hb9 hL;refine wpAnyH_ready (rs:=[2]) (by kernel_rfl) (by simp) ?_;refine AllReadyH.cons rfl (fun K hK=>?_) AllReadyH.nil;rw[if_pos (by rfl)];have hrn:=zei (f0 (w.heap.size+1) (-1)) v1;have hb9:=zac v1 (.cells (f0 (w.heap.size+1) (-1)).vs.toArray 41);have HFB:=hid (show Blk (v1.alloc (.cells (f0 (w.heap.size+1) (-1)).vs.toArray 41)) v1.heap.size (f0 (w.heap.size+1) (-1)).vs 41 from Blk.new v1 _ _);have HV2:=hid (Below.next HV1.out hb9);have HL3:=hid (show Lt2 n g _ from HL2.out.kept hb9);refine zbe 26 1 #[(0,.tmp 23)] rfl #[(0,.agg (f0 (w.heap.size+1) (-1)).vs.toArray)] (by kernel_rfl) hrn ?_;refine hK.out _ _ HV2.out (fun _=>?_);clear hK K hrn hb9;generalize (v1.alloc (.cells (f0 (w.heap.size+1) (-1)).vs.toArray 41))=v2 at *;generalize v1.heap.size=BF at *;refine wpAnyH_ready (rs:=[3]) (by kernel_rfl) (by simp) ?_;refine AllReadyH.cons rfl (fun K hK=>?_) AllReadyH.nil;rw[if_pos (by rfl)];go_simp;refine (zgj n g (fl1 BF (f0 (w.heap.size+1) (-1))) v2 HL3.out.nat HL3.out.gat (zkw (zmn (HI.out.2.1.kept HV2.out)) HFB.out) (fun i _=>Nat.zero_le _) (fun k _ i hi=>absurd hi (Nat.not_lt_zero _))).mono ?_;rintro _ v9 ⟨ra,rb,rfl,hR,hb9⟩;have HV9:=hid (Below.next HV2.out hb9);have HRB:=hid (f0_no HL3.out hR);refine hK.out _ _ HV9.out (fun _=>?_);clear hK K hb9 hR;refine zam [4,5,6] (rest:=2) rfl (by kernel_rfl) (by kernel_rfl) HV9.out ?_;simp only[List.filterMap,zD,zE];go_big_quiet_step (fail)
    go_big_quiet_step (fail)
    go_big_quiet_step (fail)
    refine wpQuiet_nil ?_;refine wpAnyH_ready (rs:=[7]) (by kernel_rfl) (by simp) ?_;refine AllReadyH.cons rfl (fun K hK=>?_) AllReadyH.nil;rw[if_pos (by rfl)];go_simp;refine hK.out _ _ HV9.out (fun _=>?_);clear hK K;refine wpAnyH_ready (rs:=[8]) (by kernel_rfl) (by simp) ?_;refine AllReadyH.cons rfl (fun K hK=>?_) AllReadyH.nil;rw[if_pos (by rfl)];go_simp;refine hK.out _ _ HV9.out (fun _=>?_);clear hK K;refine wpAnyH_done (by kernel_rfl) ?_ _;refine⟨(fun c hc=>by cases hc),?_⟩;go_wp2;go_meet
    case rel=>exact⟨rb,rfl,HRB.out,⟨Below.next HI.out.1 HV9.out,HI.out.2.1.kept HV9.out,HI.out.2.2.kept HV9.out⟩⟩
   ·rw[if_pos (by rfl)];have hrn:=zei (f0 (w.heap.size+1) (-1)) v0;have hb9:=zac v0 (.cells (f0 (w.heap.size+1) (-1)).vs.toArray 41);have HFB:=hid (show Blk (v0.alloc (.cells (f0 (w.heap.size+1) (-1)).vs.toArray 41)) v0.heap.size (f0 (w.heap.size+1) (-1)).vs 41 from Blk.new v0 _ _);have HV1:=hid (Below.next HV0.out hb9);refine zbe 26 1 #[(0,.tmp 23)] rfl #[(0,.agg (f0 (w.heap.size+1) (-1)).vs.toArray)] (by kernel_rfl) hrn ?_;refine hK.out _ _ HV1.out (fun _=>?_);clear hK K hrn hb9;generalize (v0.alloc (.cells (f0 (w.heap.size+1) (-1)).vs.toArray 41))=v1 at *;generalize v0.heap.size=BF at *;refine wpAnyH_ready (rs:=[0]) (by kernel_rfl) (by simp) ?_;refine AllReadyH.cons rfl (fun K hK=>?_) AllReadyH.nil;rw[if_pos (by rfl)];go_simp;refine (zgk v1).mono ?_;rintro _ v2 ⟨n,g,rfl,hL,hb9⟩;have HBB:=hid hb9;have HV2:=hid (Below.next HV1.out hb9);have HL2:=hid hL;refine hK.out _ _ HV2.out (fun _=>?_);clear hK K hb9 hL;have HFC:=hid (HFB.out.kept HBB.out);refine wpAnyH_ready (rs:=[3]) (by kernel_rfl) (by simp) ?_;refine AllReadyH.cons rfl (fun K hK=>?_) AllReadyH.nil;rw[if_pos (by rfl)];go_simp;refine (zgj n g (fl1 BF (f0 (w.heap.size+1) (-1))) v2 HL2.out.nat HL2.out.gat (zkw (zmn (HI.out.2.1.kept HV2.out)) HFC.out) (fun i _=>Nat.zero_le _) (fun k _ i hi=>absurd hi (Nat.not_lt_zero _))).mono ?_;rintro _ v9 ⟨ra,rb,rfl,hR,hb9⟩;have HV9:=hid (Below.next HV2.out hb9);have HRB:=hid (f0_no HL2.out hR);refine hK.out _ _ HV9.out (fun _=>?_);clear hK K hb9 hR;refine zam [4,5,6] (rest:=2) rfl (by kernel_rfl) (by kernel_rfl) HV9.out ?_;simp only[List.filterMap,zD,zE];go_big_quiet_step (fail)
    go_big_quiet_step (fail)
    go_big_quiet_step (fail)
    refine wpQuiet_nil ?_;refine wpAnyH_ready (rs:=[7]) (by kernel_rfl) (by simp) ?_;refine AllReadyH.cons rfl (fun K hK=>?_) AllReadyH.nil;rw[if_pos (by rfl)];go_simp;refine hK.out _ _ HV9.out (fun _=>?_);clear hK K;refine wpAnyH_ready (rs:=[8]) (by kernel_rfl) (by simp) ?_;refine AllReadyH.cons rfl (fun K hK=>?_) AllReadyH.nil;rw[if_pos (by rfl)];go_simp;refine hK.out _ _ HV9.out (fun _=>?_);clear hK K;refine wpAnyH_done (by kernel_rfl) ?_ _;refine⟨(fun c hc=>by cases hc),?_⟩;go_wp2;go_meet
    case rel=>exact⟨rb,rfl,HRB.out,⟨Below.next HI.out.1 HV9.out,HI.out.2.1.kept HV9.out,HI.out.2.2.kept HV9.out⟩⟩
  case rest =>
   obtain⟨rb,rfl,rfl,hI⟩:=hcut;have HI2:=hid hI.out;clear hI HI;go_wp2;go_ret;exact⟨rfl,HI2.out.1⟩
end
end Go.Proofs.YtgioppfoceddfaaGreat
