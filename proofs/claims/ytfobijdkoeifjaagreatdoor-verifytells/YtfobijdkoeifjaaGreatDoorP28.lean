import Derived.Test.YtfobijdkoeifjaaGreatDoorP25
import Derived.Test.YtfobijdkoeifjaaGreatDoorP23
import Derived.Test.YtfobijdkoeifjaaGreatDoorP12
import Derived.Deep.CutBlock
import Derived.Test.YtfobijdkoeifjaaGreatDoorP21
set_option maxRecDepth 100000
set_option maxHeartbeats 32000000
namespace Go.Proofs.YtfobijdkoeifjaaGreatDoor
section
open Go Go.RowKit
theorem zsy (w0:World)(v:Vp)(g:Rw Bool)(BJ BS:Nat)(tT st sl:Ty)(k p:Int)(w:World)(h:Sr w0 v g BJ BS tT st sl k p w)(hn:0<v.need)(hfm:(v.tk 0).k=5→(v.tk 0).len=1):Calls Tryz.prog 193 #[.pointer (some ⟨BS,0,none⟩)] w (zei w0.heap.size (v.heldT) w):=by
 have B0:=zac w (.cells #[.int .i64 0,.int .i64 0,.slice none 0 0,.int .i64 0,.int .i64 0] 38);have bZ:Blk (w.alloc (.cells #[.int .i64 0,.int .i64 0,.slice none 0 0,.int .i64 0,.int .i64 0] 38)) w.heap.size zT5 38:=Blk.new w _ _;have H1:=hyd (show (Sr w0 v g BJ BS tT st sl k p (w.alloc (.cells #[.int .i64 0,.int .i64 0,.slice none 0 0,.int .i64 0,.int .i64 0] 38))∧Below w.heap.size w (w.alloc (.cells #[.int .i64 0,.int .i64 0,.slice none 0 0,.int .i64 0,.int .i64 0] 38)))∧Blk (w.alloc (.cells #[.int .i64 0,.int .i64 0,.slice none 0 0,.int .i64 0,.int .i64 0] 38)) w.heap.size zT5 38∧w0.heap.size≤w.heap.size from ⟨⟨h.kept B0,B0⟩,bZ,h.bl.size⟩);have HN:=hyd hn;have c10:=H1.out.1.1.b.cell 10 rfl;have r0:=H1.out.1.1.row hn;rw[H1.out.1.1.nil hn] at c10;have i0:(0:Int)<tT.len:=by rw[h.tl];omega
 clear B0 bZ h hn;have HE:Hid (v.heldT=if ((v.tk 0).k != 5)=true then zaa 0 0 else zak v.c.n v.c.g ((v.tk 0).ps 0) (v.tk 0).l):=rfl;have HF:=hyd hfm;clear hfm;generalize v.heldT=R at *;have HA:=hyd (H1.out.1.1.tkA HN.out);have HA0:=hyd (H1.out.1.1.tk0 HN.out);go_enter Tryz.func193,Tryz.ntmps193
 go_upto_region 1 with fail
 generalize w.alloc (.cells #[.int .i64 0,.int .i64 0,.slice none 0 0,.int .i64 0,.int .i64 0] 38)=u1 at *;go_upto_region 2 with (first | (refine wpList_load_mid rfl 38 (.tmp 8) rfl tT.b (tT.o+0*5) (by kernel_rfl) (v.tk 0).vs _ r0 Tryz.underlying38 rfl (by kernel_rfl) ?_) | (refine zao rfl rfl 38 rfl (.tmp 3) (.tmp 9) rfl zT5 (alloc_ty5 _) rfl (v.tk 0).vs.toArray (by kernel_rfl) (by kernel_rfl) rfl (by kernel_rfl) (by simpa using (v.tk 0).vs_one) ?_))
 generalize v.tk 0=t at *;have B2:=zac u1 (.cells t.vs.toArray 38);have H2:=hyd (show ((Sr w0 v g BJ BS tT st sl k p (u1.alloc (.cells t.vs.toArray 38))∧Below w.heap.size w (u1.alloc (.cells t.vs.toArray 38)))∧Blk (u1.alloc (.cells t.vs.toArray 38)) w.heap.size zT5 38∧w0.heap.size≤w.heap.size∧w.heap.size<u1.heap.size)∧Blk (u1.alloc (.cells t.vs.toArray 38)) u1.heap.size t.vs 38∧t.At (u1.alloc (.cells t.vs.toArray 38)) from ⟨⟨⟨H1.out.1.1.kept B2,Below.next H1.out.1.2 B2⟩,H1.out.2.1.kept B2,H1.out.2.2,H1.out.2.1.lt⟩,Blk.new u1 t.vs 38,HA.out.kept B2⟩);clear B2 H1 HA r0 c10 i0;generalize u1.alloc (.cells t.vs.toArray 38)=u2 at *;generalize u1.heap.size=B5 at *;have d0:=H2.out.2.1.cell 0 rfl;by_cases hk:t.k=5
 ·have e1:(t.k != 5)=false:=by simpa using hk
  have HL:Hid (t.len=1):=HF.out hk;have HE2:Hid (R=zak v.c.n v.c.g (t.ps 0) t.l):=by show _=_;rw[HE.out,e1];rfl
  have HI:=hyd (show 0<t.len by rw[HL.out];omega)
  have ii:(0:Int)<t.len:=by have:=HI.out;omega
  clear hk HE HF;go_wp2_with fail
  go_upto_region 4 with fail
  clear e1 d0;have q0:=fun x:Gr u2=>x.cell (H2.out.1.1.1.b.cell 0 rfl);have q1:=fun x:Gr u2=>x.cell (H2.out.2.1.cell 1 rfl);have q2:∀x:Gr u2,x.w.cell? ⟨B5,2,none⟩=some (.slice (some ⟨t.b,t.o,none⟩) t.len t.cap):=fun x=>x.cell (by rw[←H2.out.2.2.nil (by rw[HL.out];omega)];exact H2.out.2.1.cell 2 rfl)
  have rP:∀u,(∃x:Gr u2,u=x.w)→u.rangeAt t.b (t.o+0*5) (t.ps 0).vs:=fun _ hC=>by obtain⟨x,rfl⟩:=hC;exact zaf (zbm H2.out.2.2 HI.out) (Gr.bl x)
  have hNE:Nonempty (Gr u2):=⟨⟨_,Below.refl _ _⟩⟩;refine zat 10 (by kernel_rfl) (by kernel_rfl) ?_;simp only[List.take,List.drop];iterate 7 go_big_quiet_step (fail)
  go_big_quiet_want;refine zad 38 (.tmp 20) rfl t.b (t.o+0*5) (by kernel_rfl) (t.ps 0).vs _ rP Tryz.underlying38 rfl (by kernel_rfl) ?_;simp only[Act.put,zA,zB,zC];go_big_quiet_on;iterate 2 go_big_quiet_step (fail)
  refine wpQuiet_nil ?_;rintro y1 ⟨xg,rfl⟩;have Bg:=xg.bl;generalize xg.w=y1 at Bg ⊢;have HA1:=hyd ((H2.out.2.2.part HI.out).kept Bg);have H3:=hyd (show (Sr w0 v g BJ BS tT st sl k p y1∧Below w.heap.size w y1)∧Blk y1 w.heap.size zT5 38∧w0.heap.size≤w.heap.size∧w.heap.size<y1.heap.size from ⟨⟨H2.out.1.1.1.kept Bg,Below.next H2.out.1.1.2 Bg⟩,H2.out.1.2.1.kept Bg,H2.out.1.2.2.1,(H2.out.1.2.1.kept Bg).lt⟩);have h0:=zbc w0.heap.size v.c v.f g BJ (t.ps 0) t.l y1 H3.out.1.1.j HA1.out H3.out.1.1.bl.size;rw[←HE2.out] at h0;clear xg Bg H2 q0 q1 q2 rP hNE ii;go_wp2_with fail
  refine h0.mono ?_;rintro _ y2 ⟨u,rfl,uA,uB,uS,hb⟩;have bZ:=H3.out.2.1.kept hb;go_wp2_with (refine zag rfl rfl 38 (.tmp 2) (.tmp 24) rfl w.heap.size u.vs (by kernel_rfl) (by kernel_rfl) u.vs_one bZ rfl (by kernel_rfl) ?_;intro w2 W2);have rB:=W2.blk.range;have HX:=H3.out.2.2;exact bodyPost_ret (v:=.agg u.vs.toArray) (zax (vs:=u.vs) Tryz.underlying38 rfl (by kernel_rfl) Tryz.results193 rfl rB) rfl ⟨u,rfl,uA.wrote uB W2 (by omega) (by omega),uB.mono (fun b h=>by omega),uS,W2.below (by omega) (Below.next H3.out.1.2 hb)⟩
 ·have e1:(t.k != 5)=true:=by simpa using hk
  have HE2:Hid (R=zaa 0 0):=by show _=_;rw[HE.out,e1];rfl
  have bZ:=H2.out.1.2.1;clear hk HE HF;go_wp2_with (refine zag rfl rfl 38 (.tmp 2) (.tmp 13) rfl w.heap.size (zaa 0 0).vs (by kernel_rfl) (by kernel_rfl) rfl bZ rfl (by kernel_rfl) ?_;intro w2 W2);have rB:=W2.blk.range;exact bodyPost_ret (v:=.agg (zaa 0 0).vs.toArray) (zax (vs:=(zaa 0 0).vs) Tryz.underlying38 rfl (by kernel_rfl) Tryz.results193 rfl rB) rfl (zif HE2.out (W2.below (by omega) H2.out.1.1.2))
theorem Tryz.infoHn:(Tryz.prog.info? 123).map (fun i=>(i.zero,i.size,i.bytes))=some (some (.agg #[.int .i64 0,.int .i64 0,.int .i64 0]),3,24):=by kernel_rfl
theorem zoi {w:World}{ops:Array Oper}{rest:List Oper}{o:Oper}{a:Act}{Q:Exit→Act→World→Prop}(hgd:o.guard=none)(s x:Operand)
  (hop:o.op=.call { callee:=.builtin .append,args:=#[s,x],argTypes:=#[40,40] }) (base:Nat) (v:Value) (m:Nat) (F:Nat→Hn) (h0:Hn) (hs:a.eval s=v) (ho:w.ownsRow base 123 3 v m (za2 (fun i=>(F i).vs) m)) (hx:a.eval x=.slice (some ⟨w.heap.size,0,none⟩) 1 1) (hl:m≤1000000) (hb:base≤w.heap.size)
  (h:∀v' w',w'.ownsRow base 123 3 v' (m+1) (za2 (fun i=>(updH F m h0 i).vs) (m+1))→w.grownBy w' v.ownBlock→wpList Tryz.prog ops Q rest (a.put o.dst v') w'):wpList Tryz.prog ops Q (o :: rest) a (w.alloc (.cells h0.vs.toArray 123)):=by
 have hE:(w.alloc (.cells h0.vs.toArray 123)).ownsRow base 123 3 v m (za2 (fun i=>(F i).vs) m):=ho.alloc _;refine zeq Tryz.underlying40 Tryz.infoHn rfl (by decide) hgd s x hop base v m (za2 (fun i=>(F i).vs) m) hs hE (some ⟨w.heap.size,0,none⟩) 1 1 h0.vs hx (fun h=>by cases h) rfl (zom (cs:=h0.vs)) (fun u hu=>List.all_eq_true.1 h0.vs_one u hu) (by unfold maxLen;omega) (by omega) (by rw[alloc_size];omega) ?_
 intro v' w' h1 h2;refine h v' w' ?_ ?_
 ·have e:za2 (fun i=>(updH F m h0 i).vs) (m+1)=za2 (fun i=>(F i).vs) m++h0.vs:=by
   show za2 (fun i=>(updH F m h0 i).vs) m++(updH F m h0 m).vs=_
   have e1:updH F m h0 m=h0:=by unfold updH;rw[if_neg (by omega)]
   rw[e1]
   congr 1
   have key:∀k,k≤m→za2 (fun i=>(updH F m h0 i).vs) k=za2 (fun i=>(F i).vs) k:=fun k=>by
    induction k with
    | zero=>intro _;rfl
    | succ k ih =>
     intro hk;show za2 _ k++(updH F m h0 k).vs=za2 _ k++(F k).vs
     have e2:updH F m h0 k=F k:=by unfold updH;rw[if_pos (by omega)]
     rw[ih (by omega),e2]
   exact key m (Nat.le_refl _)
  rw[e];exact h1
 ·have g0:=World.grownBy_alloc w (.cells h0.vs.toArray 123) v.ownBlock;refine⟨h2.os.trans g0.os,h2.tape.trans g0.tape,h2.output.trans g0.output,Nat.le_trans g0.size h2.size,fun k hk hne=>?_⟩;rw[h2.block k (by rw[alloc_size];omega) hne]
  exact g0.block k hk hne
def mdC (f:Cf)(r:Rw Hn):Cf:=⟨zaa 0 0,zaa 0 0,zaa 0 0,0,0,0,f.cd,r,zgg ⟨.dm,.dm,0⟩,zgg ⟨0,0,zgg 0⟩⟩
def mdV (f:Cf)(v:Value):List Value:=[.int .i64 0,.int .i64 0,.slice none 0 0,.int .i64 0,.int .i64 0,.int .i64 0,.int .i64 0,.slice none 0 0,.int .i64 0,.int .i64 0,.slice none 0 0,.int .i64 0,.int .i64 0,.int .i64 0,.slice f.cd.ao f.cd.len f.cd.cap,v,.slice none 0 0,.slice none 0 0]
theorem zq5 (f:Cf)(r:Rw Hn):(mdC f r).vs=mdV f (.slice r.ao r.len r.cap):=rfl
theorem mdC_at {f:Cf}{r:Rw Hn}{w:World}(hf:f.At w)(hr:HnsAt w r):(mdC f r).At w:=by
 have z:I64 0:=⟨by omega,by omega⟩;exact⟨zav _ _ _,zav _ _ _,zav _ _ _,z,z,z,hf.cd,hr,zd6 _ _ _ _ _,zd6 _ _ _ _ _⟩
structure Lw (w0:World)(f:Cf)(g:Rw Bool)(B i m:Nat)(F:Nat→Hn)(vo vh:Value)(u:World):Prop where
 bl:Below w0.heap.size w0 u
 bF:Blk u w0.heap.size f.vs 44
 b4:Blk u (w0.heap.size+1) z_fn 44
 b6:Blk u B (mdV f vh) 44
 oi:Oi u (w0.heap.size+2) vo (trM (f.opn g i) f.cd.len)
 hs:u.ownsRow (w0.heap.size+2) 123 3 vh m (za2 (fun i=>(F i).vs) m)
 ne:w0.heap.size+1<B
 ln:LnI f g i m F∧m≤i∧∀k,k<m→(F k).At
theorem Lw.kept {w0:World}{f:Cf}{g:Rw Bool}{B i m:Nat}{F:Nat→Hn}{vo vh:Value}{u u':World}(h:Lw w0 f g B i m F vo vh u)(hb:Below u.heap.size u u'):Lw w0 f g B i m F vo vh u' :=
 ⟨Below.next h.bl hb,h.bF.kept hb,h.b4.kept hb,h.b6.kept hb,h.oi.kept hb,owk h.hs hb,h.ne,h.ln⟩
theorem Lw.size {w0:World}{f:Cf}{g:Rw Bool}{B i m:Nat}{F:Nat→Hn}{vo vh:Value}{u:World}(h:Lw w0 f g B i m F vo vh u):w0.heap.size+2≤u.heap.size:=by have:=h.b4.lt;omega
theorem Lw.app {w0:World}{f:Cf}{g:Rw Bool}{B i m:Nat}{F F':Nat→Hn}{vo vh vh':Value}{u u1 u2:World}(h:Lw w0 f g B i m F vo vh u)(hk:u1.ownsRow (w0.heap.size+2) 123 3 vh' (m+1) (za2 (fun i=>(F' i).vs) (m+1)))(hg:u.grownBy u1 vh.ownBlock)(W:WroteB u1 u2 B (mdV f vh') 44) :
  (Below w0.heap.size w0 u2∧Blk u2 w0.heap.size f.vs 44∧Blk u2 (w0.heap.size+1) z_fn 44∧Blk u2 B (mdV f vh') 44)∧Oi u2 (w0.heap.size+2) vo (trM (f.opn g i) f.cd.len)∧u2.ownsRow (w0.heap.size+2) 123 3 vh' (m+1) (za2 (fun i=>(F' i).vs) (m+1)):=by
 have t1:(123:TypeId)≠44:=by decide
 have t2:(3:TypeId)≠123:=by decide
 have t3:(3:TypeId)≠44:=by decide
 have hl:∀k,vh.ownBlock=some k→w0.heap.size≤k:=fun k e=>by have:=(owb h.hs e).1;omega
 have o1:u1.ownsRow (w0.heap.size+2) 3 1 vo (trM (f.opn g i) f.cd.len).length (ivL (trM (f.opn g i) f.cd.len)):=zf3 h.oi hg (fun k e e2=>zjk h.oi h.hs t2 e e2.symm);have bB:Blk u1 B (mdV f vh) 44:=h.b6.gb hg (zbl h.hs h.b6 t1);refine⟨⟨zce (zce h.bl hg hl) W.gb (fun k e=>by have:=Option.some.inj e;have:=h.ne;omega),?_,?_,W.blk⟩,?_,?_⟩
 ·exact (h.bF.gb hg (zbl h.hs h.bF t1)).gb W.gb (fun e=>by have:=Option.some.inj e;have:=h.ne;omega)
 ·exact (h.b4.gb hg (zbl h.hs h.b4 t1)).gb W.gb (fun e=>by have:=Option.some.inj e;have:=h.ne;omega)
 ·exact zf3 o1 W.gb (fun k e e2=>zbl o1 bB t3 (by rw[e,e2]))
 ·have o2:Blk u1 B (mdV f vh) 44:=bB;exact zf3 hk W.gb (fun k e e2=>zbl hk o2 t1 (by rw[e,e2]))
theorem Lw.cut {w0:World}{f:Cf}{g:Rw Bool}{B i' m:Nat}{F:Nat→Hn}{vo vo' vh:Value}{l l':List Int}{u u1:World}(h1:(Below w0.heap.size w0 u∧Blk u w0.heap.size f.vs 44∧Blk u (w0.heap.size+1) z_fn 44∧Blk u B (mdV f vh) 44)∧Oi u (w0.heap.size+2) vo l∧u.ownsRow (w0.heap.size+2) 123 3 vh m (za2 (fun i=>(F i).vs) m))
  (ho:Oi u1 (w0.heap.size+2) vo' l') (hg:u.grownBy u1 vo.ownBlock) (hl:l'=trM (f.opn g i') f.cd.len) (hB:w0.heap.size+1<B) (hln:LnI f g i' m F∧m≤i'∧∀k,k<m→(F k).At):Lw w0 f g B i' m F vo' vh u1:=by
 have t2:(123:TypeId)≠3:=by decide
 have t3:(3:TypeId)≠44:=by decide
 obtain⟨⟨a1,a2,a3,a4⟩,a5,a6⟩:=h1;subst hl;exact⟨zce a1 hg (fun k e=>by have:=(owb a5 e).1;omega),a2.gb hg (zbl a5 a2 t3),a3.gb hg (zbl a5 a3 t3),a4.gb hg (zbl a5 a4 t3),ho,zf3 a6 hg (fun k e e2=>zjk a6 a5 t2 e e2.symm),hB,hln⟩
theorem Lw.skip {w0:World}{f:Cf}{g:Rw Bool}{B i m:Nat}{F:Nat→Hn}{vo vh:Value}{u:World}(h:Lw w0 f g B i m F vo vh u)(hs:(∀p:Nat,p<f.cd.len→f.opn g i p=true→hitH (f.hd.x i) p=false)∧trM (f.opn g (i+1)) f.cd.len=trM (f.opn g i) f.cd.len):Lw w0 f g B (i+1) m F vo vh u :=
 ⟨h.bl,h.bF,h.b4,h.b6,by rw[hs.2];exact h.oi,h.hs,h.ne,h.ln.1.skip hs.1,by have:=h.ln.2.1;omega,h.ln.2.2⟩
theorem upd_at {F:Nat→Hn}{m:Nat}{h:Hn}(hF:∀k,k<m→(F k).At)(hh:h.At):∀k,k<m+1→(updH F m h k).At:=fun k _=>by
 unfold updH;split
 ·exact hF k (by assumption)
 ·exact hh
structure LnO (f:Cf)(g:Rw Bool)(base:Nat)(l:Cf)(u:World):Prop where
 lat:l.At u
 ln:Ln f g l
 own:u.ownsRow base 123 3 (.slice l.hd.ao l.hd.len l.hd.cap) l.hd.len (za2 (fun i=>(l.hd.x i).vs) l.hd.len)
 eq:l=mdC f l.hd
 each:∀k,k<l.hd.len→(l.hd.x k).At
theorem zra {f:Cf}{g:Rw Bool}{base m:Nat}{F:Nat→Hn}{v:Value}{u:World}(hf:f.At u)(ho:u.ownsRow base 123 3 v m (za2 (fun i=>(F i).vs) m))(hm:m≤9223372036854775807)(hF:∀k,k<m→(F k).At)(hl:∀l:Cf,l.cd=f.cd→l.hd.len=m→l.hd.x=F→Ln f g l):∃l:Cf,l.vs=mdV f v∧LnO f g base l u∧l.hd.len=m∧l.hd.x=F:=by
 obtain⟨r,h1,h2,h3,h4⟩:=Rw.of_own (vs:=Hn.vs) (z:=3) (A:=fun _ h=>Hn.At h) (fun _=>rfl) ho hm hF;refine⟨mdC f r,by rw[zq5,h1],⟨mdC_at hf h2,hl _ rfl h3 h4,?_,rfl,?_⟩,h3,h4⟩
 ·show u.ownsRow base 123 3 (.slice r.ao r.len r.cap) r.len (za2 (fun i=>(r.x i).vs) r.len)
  rw[←h1,h3,h4];exact ho
 ·intro k hk;show (r.x k).At
  rw[h4];exact hF k (by rw[←h3];exact hk)
theorem LnO.gb {f:Cf}{g:Rw Bool}{base B:Nat}{l:Cf}{u u':World}{c:List Value}(h:LnO f g base l u)(hg:u.grownBy u' (some B))(hB:Blk u B c 44)(hf:f.At u'):∃l':Cf,l'.vs=l.vs∧LnO f g base l' u':=by
 have ho:=zf3 h.own hg (fun k e e2=>zbl h.own hB (by decide) (by rw[e,e2]));obtain⟨l',h1,h2,_,_⟩:=zra (g:=g) hf ho h.lat.hd.bound h.each (fun l' e1 e2 e3=>⟨e1,fun p hp hr=>by rw[han_fnd,e2,e3,←han_fnd];exact h.ln.han p hp hr⟩)
 exact⟨l',by rw[h1,←zq5,←h.eq],h2⟩
def LnP (f:Cf)(g:Rw Bool)(w:World):Ending→World→Prop:=fun e w'=>∃l:Cf,e=.returned (.agg l.vs.toArray)∧LnO f g w.heap.size l w'∧Below w.heap.size w w'
theorem ztq (f:Cf)(g:Rw Bool)(w:World)(hf:f.At w)(hg:BlAt w g)(hn:f.cd.len≤100000)(hh:f.hd.len≤100000):Calls Tryz.prog 39 #[.agg f.vs.toArray,.slice g.ao g.len g.cap] w (LnP f g w):=by
 have A0:=za9 [.cells f.vs.toArray 44,.cells z_fn.toArray 44] w;have A1:=zbe [.cells f.vs.toArray 44,.cells z_fn.toArray 44] w;simp only[List.foldl] at A0 A1;unfold z_fn at A0 A1;have H1:=hyd (show Below w.heap.size w _∧Blk _ w.heap.size f.vs 44∧Blk _ (w.heap.size+1) z_fn 44 from ⟨A0,A1 0 (by simp),A1 1 (by simp)⟩);have HD:=hyd (show f.At w∧BlAt w g∧f.hd.len≤100000 from ⟨hf,hg,hh⟩);have hbd2:=hf.hd.bound;have HNH:=hyd hf.hd.nil;clear A0 A1 hf hg hh;go_enter Tryz.func39,Tryz.ntmps39
 go_upto_region 1 with fail
 generalize (w.alloc (.cells f.vs.toArray 44)).alloc (.cells [.int .i64 0,.int .i64 0,.slice none 0 0,.int .i64 0,.int .i64 0,.int .i64 0,.int .i64 0,.slice none 0 0,.int .i64 0,.int .i64 0,.slice none 0 0,.int .i64 0,.int .i64 0,.int .i64 0,.slice none 0 0,.slice none 0 0,.slice none 0 0,.slice none 0 0].toArray 44)=u1 at *;have rF:=H1.out.2.1.range;have h0:=zoa f g u1 (Cf.At.kept H1.out.1 HD.out.1) (BlAt.kept HD.out.2.1 H1.out.1) hn;go_wp2_with (refine wpList_load_mid rfl 44 (.tmp 2) rfl w.heap.size 0 (by kernel_rfl) f.vs _ rF Tryz.underlying44 rfl (by kernel_rfl) ?_)
 refine h0.mono ?_;rintro _ u2 ⟨vo,rfl,hO,hb⟩;have H2:=hyd (show Below w.heap.size w u2∧Blk u2 w.heap.size f.vs 44∧Blk u2 (w.heap.size+1) z_fn 44∧Oi u2 (w.heap.size+2) vo (trM (f.opn g 0) f.cd.len) from ⟨Below.next H1.out.1 hb,H1.out.2.1.kept hb,H1.out.2.2.kept hb,by rw[zuu];exact zgc hO (by have:=H1.out.2.2.lt;omega)⟩)
 clear h0 hO hb rF H1;go_upto_region 2 with fail
 have c14:=H2.out.2.1.cell 14 rfl;go_upto_region 3 with (first | (refine zao rfl rfl 44 rfl (.tmp 6) (.tmp 18) rfl z_fn (alloc_fn _) rfl (mdV f (.slice none 0 0)).toArray (by kernel_rfl) (by kernel_rfl) rfl (by kernel_rfl) (by simp[mdV,Value.oneCell']) ?_))
 have B3:=zac u2 (.cells (mdV f (.slice none 0 0)).toArray 44);have H3:Hid (Lw w f g u2.heap.size 0 0 (fun _=>⟨0,0,0⟩) vo (.slice none 0 0) (u2.alloc (.cells (mdV f (.slice none 0 0)).toArray 44))) :=
  ⟨Below.next H2.out.1 B3,H2.out.2.1.kept B3,H2.out.2.2.1.kept B3,Blk.new u2 _ _,H2.out.2.2.2.kept B3,World.ownsRow_nil _ _ _ _,H2.out.2.2.1.lt,LnI.start f g _,Nat.le_refl _,fun k hk=>absurd hk (Nat.not_lt_zero _)⟩
 clear B3 H2 c14;generalize u2.alloc (.cells (mdV f (.slice none 0 0)).toArray 44)=u3 at *;generalize u2.heap.size=B6 at *;have c15:=H3.out.bF.cell 15 rfl;go_wp2;clear c15;go_loopw [5,22] (fun v i wr=>∃(j m:Nat) (F:Nat→Hn) (vh:Value),j≤f.hd.len∧i=.int .i64 j∧Lw w f g B6 j m F v vh wr) (fun _ i _=>f.hd.len - (intOf i).toNat)
 case atStart=>exact⟨0,0,_,_,Nat.zero_le _,rfl,H3.out⟩
 case round =>
  clear H3;obtain⟨j,m,F,vh,hj,rfl,hB⟩:=hrel;have HB:=hyd hB;clear hB;by_cases hlt:j<f.hd.len
  ·as_aux_lemma =>
   have ij:(j:Int)<f.hd.len:=by omega
   have r0:=(Cf.At.kept HB.out.bl HD.out.1).hd.row j hlt;rw[HNH.out (by omega)];have HC1:=hyd (fun h=>zwv (f:=f) (g:=g) (i:=j) h);have HC2:=hyd (fun h=>ztw (f:=f) (g:=g) (i:=j) h);have HKE:=hyd (HB.out.ln.1.keep);have HXA:=hyd (HD.out.1.hd.each j hlt);have HSK:Hid (((∀p:Nat,p<f.cd.len→f.opn g j p=true→hitH (f.hd.x j) p=false)∧trM (f.opn g (j+1)) f.cd.len=trM (f.opn g j) f.cd.len)→∀u,Lw w f g B6 j m F u5 vh u→Lw w f g B6 (j+1) m F u5 vh u):=fun h u hu=>hu.skip h;generalize f.hd.x j=x at *;go_upto_region 6 with (first | (refine wpList_load_mid rfl 123 (.tmp 24) rfl f.hd.b (f.hd.o+j*3) (by kernel_rfl) x.vs _ r0 Tryz.underlying123 rfl (by kernel_rfl) ?_) | (refine zao rfl rfl 123 rfl (.tmp 8) (.tmp 25) rfl z_hn (ze6 _) rfl x.vs.toArray (by kernel_rfl) (by kernel_rfl) rfl (by kernel_rfl) (by simpa using x.vs_one) ?_))
   have B1:=zac wr (.cells x.vs.toArray 123);have HU:=hyd (show Lw w f g B6 j m F u5 vh (wr.alloc (.cells x.vs.toArray 123))∧Blk _ wr.heap.size x.vs 123∧w.heap.size+2≤wr.heap.size from ⟨HB.out.kept B1,Blk.new wr _ _,HB.out.size⟩);clear r0 HB B1;generalize wr.alloc (.cells x.vs.toArray 123)=U at *;generalize wr.heap.size=BX at *;have d0:=HU.out.2.1.cell 0 rfl;have h0:=zj2 U (w.heap.size+2) u5 (trM (f.opn g j) f.cd.len) x.fr HU.out.1.oi (zdw _ _) (by have:=zkn (f.opn g j) f.cd.len;omega)
   have hlen:=zkn (f.opn g j) f.cd.len;have hcl:=List.countP_le_length (p:=fun a:Int=>decide (a<x.tw_)) (l:=trM (f.opn g j) f.cd.len);have HC3:Hid (∀u,Lw w f g B6 j m F u5 vh u→Calls Tryz.prog 82 #[u5,.int .i64 x.tw_] u fun e w'=>∃b:Bool,e=.returned (.tuple #[.int .i64 (((trM (f.opn g j) f.cd.len).countP fun a=>decide (a<x.tw_):Nat):Int),.bool b])∧Below u.heap.size u w'):=fun u hu=>zj2 u (w.heap.size+2) u5 _ x.tw_ hu.oi (zdw _ _) (by omega);generalize ((trM (f.opn g j) f.cd.len).countP fun a=>decide (a<x.fr))=c1 at *;generalize ((trM (f.opn g j) f.cd.len).countP fun a=>decide (a<x.tw_))=c2 at *;have HCL:=hyd (show c2≤(trM (f.opn g j) f.cd.len).length∧(trM (f.opn g j) f.cd.len).length≤f.cd.len from ⟨hcl,hlen⟩);clear hcl hlen;go_wp2_with fail
   refine h0.mono ?_;rintro _ u4 ⟨b4,rfl,hb⟩;have H4:=hyd (show Lw w f g B6 j m F u5 vh u4∧Blk u4 BX x.vs 123∧w.heap.size+2≤BX from ⟨HU.out.1.kept hb,HU.out.2.1.kept hb,HU.out.2.2⟩);clear h0 hb HU d0;have d1:=H4.out.2.1.cell 1 rfl;have h0:=HC3.out u4 H4.out.1;clear HC3;go_wp2_with fail
   refine h0.mono ?_;rintro _ u6 ⟨b6,rfl,hb⟩;have H6:=hyd (show Lw w f g B6 j m F u5 vh u6∧Blk u6 BX x.vs 123∧w.heap.size+2≤BX from ⟨H4.out.1.kept hb,H4.out.2.1.kept hb,H4.out.2.2⟩);clear h0 hb H4 d1;by_cases hc:c1<c2
   ·have ic:(c1:Int)<c2:=by omega
    have HE:=hyd (HC1.out hc);have HCC:=hyd hc;clear HC1 HC2 hc HSK;have c15:=H6.out.1.b6.cell 15 rfl;have rX:=H6.out.2.1.range;go_upto_region 10 with (first
     | (refine wpList_load_mid rfl 123 (.tmp 8) rfl BX 0 (by kernel_rfl) [.int .i64 x.fr,.int .i64 x.tw_,.int .i64 x.at_] _ rX Tryz.underlying123 rfl (by kernel_rfl) ?_)
     | (at_builtin;refine zoi rfl _ _ rfl (w.heap.size+2) vh m F x rfl H6.out.1.hs rfl (by have:=H6.out.1.ln.2.1;have:=HD.out.2.2;omega) H6.out.1.size ?_;intro v7 w7 h7 g7;obtain⟨ao7,cap7,rfl⟩:=zkb h7;have H7:=hyd (show w7.ownsRow (w.heap.size+2) 123 3 (.slice ao7 (m+1) cap7) (m+1) (za2 (fun i=>(updH F m x i).vs) (m+1))∧u6.grownBy w7 vh.ownBlock∧Blk w7 B6 (mdV f vh) 44 from ⟨h7,g7,H6.out.1.b6.gb g7 (zbl H6.out.1.hs H6.out.1.b6 (by decide))⟩);clear h7 g7 rX c15)
     | (refine zbf rfl 40 (.tmp 48) (.tmp 47) rfl rfl B6 15 (.slice ao7 (m+1) cap7) _ _ (by kernel_rfl) (by kernel_rfl) (zaw _ _ (by kernel_rfl) rfl rfl _ _) H7.out.2.2 (by simp[mdV]) ?_;intro w8 W8;have H8:=hyd (H6.out.1.app H7.out.1 H7.out.2.1 W8);clear W8 H7))
    have h0:=zsa w8 (w.heap.size+2) u5 (trM (f.opn g j) f.cd.len) c1 c2 H8.out.2.1 HCC.out HCL.out.1 (by have:=HCL.out.2;omega)
    have HNL:=hyd (show w.heap.size+1<B6∧m+1≤j+1∧∀k,k<m+1→(updH F m x k).At from ⟨H6.out.1.ne,by have:=H6.out.1.ln.2.1;omega,upd_at H6.out.1.ln.2.2 HXA.out⟩)
    clear H6 HCC HCL;go_wp2_with fail
    refine h0.mono ?_;rintro _ w9 ⟨v9,rfl,hO9,g9⟩;have H9:Hid (Lw w f g B6 (j+1) (m+1) (updH F m x) v9 (.slice ao7 (m+1) cap7) w9):=Lw.cut H8.out hO9 g9 HE.out HNL.out.1 ⟨HKE.out,HNL.out.2⟩;clear h0 hO9 g9 H8 HE HKE HNL;go_wp2;go_roundw
    case rel=>exact⟨j+1,m+1,_,_,by omega,by go_num,H9.out⟩
    case measure=>simp[intOf];omega
   ·have ic:¬(c1:Int)<c2:=by omega
    have H9:=hyd (HSK.out (HC2.out hc) _ H6.out.1);clear HC1 HC2 hc HSK H6 HCL HKE;go_wp2;go_roundw
    case rel=>exact⟨j+1,m,_,_,by omega,by go_num,H9.out⟩
    case measure=>simp[intOf];omega
  ·have ij:¬(j:Int)<f.hd.len:=by omega
   have hje:j=f.hd.len:=by omega
   subst hje;obtain⟨r,rfl,hr,hrl,hrx⟩:=Rw.of_own (vs:=Hn.vs) (z:=3) (A:=fun _ h=>Hn.At h) (fun _=>rfl) HB.out.hs (by have:=HB.out.ln.2.1;omega) HB.out.ln.2.2
   have HR:=hyd (show HnsAt wr r∧r.len=m∧r.x=F from ⟨hr,hrl,hrx⟩);clear hr hrl hrx;have r6:=HB.out.b6.range;go_wp2_with (first
    | (refine wpList_load_mid rfl 44 (.tmp 6) rfl B6 0 (by kernel_rfl) (mdV f (.slice r.ao r.len r.cap)) _ r6 Tryz.underlying44 rfl (by kernel_rfl) ?_)
    | (refine zag rfl rfl 44 (.tmp 4) (.tmp 54) rfl (w.heap.size+1) (mdV f (.slice r.ao r.len r.cap)) rfl rfl rfl HB.out.b4 rfl (by kernel_rfl) ?_;intro w4 W4))
   have H4:=hyd (show Below w.heap.size w w4∧wr.grownBy w4 (some (w.heap.size+1)) from ⟨zce HB.out.bl W4.gb (fun k e=>by have:=Option.some.inj e;omega),W4.gb⟩)
   have hs4:=zf3 HB.out.hs W4.gb (fun k e e2=>zbl HB.out.hs HB.out.b4 (by decide) (by rw[e,e2]));have rB:=W4.blk.range;obtain⟨l,hl1,hl2,_,_⟩:=zra (g:=g) (Cf.At.kept H4.out.1 HD.out.1) (zrq hs4 (show w.heap.size≤w.heap.size+2 by omega)) (by have:=HB.out.ln.2.1;omega) HB.out.ln.2.2 (fun l e1 e2 e3=>HB.out.ln.1.done e1 e2 e3)
   refine bodyPost_ret (v:=.agg (mdV f (.slice r.ao r.len r.cap)).toArray) (zax (vs:=mdV f (.slice r.ao r.len r.cap)) Tryz.underlying44 rfl (by kernel_rfl) Tryz.results39 rfl rB) rfl ⟨l,by rw[hl1],hl2,H4.out.1⟩
def hldM (r:Rw Int)(k p:Nat):Bool:=decide ((p:Int) ∈ r.ls.take k)
theorem ztz (r:Rw Int)(p:Nat):hldM r r.len p=decide ((p:Int) ∈ r.ls):=by
 unfold hldM;rw[List.take_of_length_le (by rw[r.ls_len];exact Nat.le_refl _)]
theorem zht {r:Rw Int}{k:Nat}(h:k<r.len):r.ls.take (k+1)=r.ls.take k++[r.x k]:=by
 rw[List.take_succ_eq_append_getElem (by rw[r.ls_len];exact h)]
 have:=r.ls_get k h;rw[List.getElem?_eq_getElem (by rw[r.ls_len];exact h)] at this
 rw[Option.some.inj this]
theorem zxg {r:Rw Int}{k q n:Nat}(h:k<r.len)(hq:r.x k=q):bvL (updB (hldM r k) q) n=bvL (hldM r (k+1)) n:=by
 unfold bvL;apply List.map_congr_left
 intro i _
 congr 1
 unfold updB hldM;rw[zht h,hq];by_cases e:i=q
 ·subst e;simp
 ·rw[if_neg e];have:¬(i:Int)=q:=by omega
  simp[this]
theorem hld_no {r:Rw Int}{k n:Nat}(h:k<r.len)(hq:¬(0≤r.x k∧r.x k<n)):bvL (hldM r k) n=bvL (hldM r (k+1)) n:=by
 unfold bvL;apply List.map_congr_left
 intro i hi
 congr 1
 unfold hldM;rw[zht h];have hi:=List.mem_range.1 hi;have:¬(i:Int)=r.x k:=by omega
 simp[this]
theorem zuj (r:Rw Int)(n:Nat):bvL (hldM r 0) n=bvL (fun _=>false) n:=by
 unfold bvL;apply List.map_congr_left
 intro i _
 congr 1
structure Hb (w0:World)(f:Cf)(r:Rw Int)(BH k:Nat)(u:World):Prop where
 bl:Below w0.heap.size w0 u
 bF:Blk u w0.heap.size f.vs 44
 bH:Blk u BH (bvL (hldM r k) f.cd.len) 4
 ne:w0.heap.size<BH
theorem Hb.kept {w0:World}{f:Cf}{r:Rw Int}{BH k:Nat}{u u':World}(h:Hb w0 f r BH k u)(hb:Below u.heap.size u u'):Hb w0 f r BH k u':=⟨Below.next h.bl hb,h.bF.kept hb,h.bH.kept hb,h.ne⟩
theorem zqi (f:Cf)(r:Rw Int)(w:World)(hr:NmAt w r)(hn:f.cd.len≤100000):Calls Tryz.prog 40 #[.agg f.vs.toArray,.slice r.ao r.len r.cap] w fun e w'=>∃BH:Nat,e=.returned (.slice (some ⟨BH,0,none⟩) f.cd.len f.cd.len)∧w.heap.size<BH∧Blk w' BH (bvL (fun p=>decide ((p:Int) ∈ r.ls)) f.cd.len) 4∧Below w.heap.size w w':=by
 have HFIN:Hid (∀u BH,Hb w f r BH r.len u→Blk u BH (bvL (fun p=>decide ((p:Int) ∈ r.ls)) f.cd.len) 4):=fun u BH h=>by
  have:=h.bH;rw[show hldM r r.len=fun p:Nat=>decide ((p:Int) ∈ r.ls) from funext (ztz r)] at this;exact this
 have H1:=hyd (Fb.new w f);have HD:=hyd hr;have hbr:=hr.bound;have HNR:=hyd hr.nil;clear hr;generalize hw:w.alloc (.cells f.vs.toArray 44)=u1 at *;go_enter Tryz.func40,Tryz.ntmps40
 go_upto_region 1 with fail
 clear hw;have c14:=H1.out.b.cell 14 rfl;go_upto_region 2 with (refine zfu rfl _ _ _ rfl 4 (.bool false) 1 Tryz.underlying34 (by kernel_rfl) rfl f.cd.len rfl rfl (by omega) (by omega) ?_;intro w1 hb1 hl1;have H2:Hid (Hb w f r u1.heap.size 0 w1):=⟨Below.next H1.out.bl hl1,H1.out.b.kept hl1,by rw[zuj,←zwg];exact hb1,H1.out.b.lt⟩;clear hb1 hl1 H1 c14)
 generalize u1.heap.size=BH at *;go_wp2;go_loopw [14] (fun i wr=>∃(k:Nat),k≤r.len∧i=.int .i64 k∧Hb w f r BH k wr) (fun i _=>r.len - (intOf i).toNat)
 case atStart=>exact⟨0,Nat.zero_le _,rfl,H2.out⟩
 case round =>
  clear H2;obtain⟨k,hk,rfl,hB⟩:=hrel;have HB:=hyd hB;clear hB;by_cases hlt:k<r.len
  ·have ik:(k:Int)<r.len:=by omega
   have r0:=(HD.out.kept HB.out.bl).row k hlt 0 _ rfl;simp only[Nat.add_zero,Nat.mul_one] at r0;have HY:=hyd (fun q h=>zxg (q:=q) (n:=f.cd.len) hlt h);have HN:=hyd (fun h=>hld_no (n:=f.cd.len) hlt h);have rF:=HB.out.bF.range;have h0:=zew f (r.x k) wr;have HPL:=hyd (Cf.pl_iff (f:=f) (a:=r.x k));rw[HNR.out (by omega)];generalize r.x k=z at *;generalize f.pl z=pb at *;go_wp2_with (refine wpList_load_mid rfl 44 (.tmp 2) rfl w.heap.size 0 (by kernel_rfl) f.vs _ rF Tryz.underlying44 rfl (by kernel_rfl) ?_)
   refine h0.mono ?_;rintro _ u3 ⟨rfl,hb⟩;have H3:=hyd (HB.out.kept hb);clear h0 hb HB rF r0;cases pb
   ·have HE:Hid (bvL (hldM r k) f.cd.len=bvL (hldM r (k+1)) f.cd.len):=HN.out (fun h=>by have:=HPL.out.2 h;cases this)
    clear HY HN HPL;go_wp2;go_roundw
    case rel=>exact⟨k+1,by omega,by go_num,⟨H3.out.bl,H3.out.bF,by rw[←HE.out];exact H3.out.bH,H3.out.ne⟩⟩
    case measure=>simp[intOf];omega
   ·have hz:=HPL.out.1 rfl;obtain⟨q,rfl⟩:∃q:Nat,z=q:=⟨z.toNat,by omega⟩;have HE:=hyd (HY.out q rfl);have iq:(q:Int)<f.cd.len:=hz.2;clear HY HN HPL hz;go_wp2_with (refine zbf rfl 4 (.tmp 23) (.const (.bool true)) rfl rfl BH q (.bool true) _ _ (by kernel_rfl) (by kernel_rfl) (zaw _ _ (by kernel_rfl) rfl rfl _ _) H3.out.bH (by rw[zd9];omega) ?_;intro w5 W5;have H5:Hid (Hb w f r BH (k+1) w5):=⟨zce H3.out.bl W5.gb (fun k e=>by have:=Option.some.inj e;have:=H3.out.ne;omega),H3.out.bF.gb W5.gb (fun e=>by have:=Option.some.inj e;have:=H3.out.ne;omega),by rw[←HE.out,←zwj];exact W5.blk,H3.out.ne⟩;clear W5 H3);go_roundw
    case rel=>exact⟨k+1,by omega,by go_num,H5.out⟩
    case measure=>simp[intOf];omega
  ·have ik:¬(k:Int)<r.len:=by omega
   have hke:k=r.len:=by omega
   subst hke;have HE:=hyd (HFIN.out _ _ HB.out);go_wp2;go_ret;exact⟨BH,rfl,HB.out.ne,HE.out,HB.out.bl⟩
structure Hz (BF BG BX B7 BH:Nat)(l:Cf)(g:Rw Bool)(x:Rn)(m:Nat→Bool)(u:World):Prop where
 bF:Blk u BF l.vs 44
 bG:Blk u BG [.slice g.ao g.len g.cap] 34
 bX:Blk u BX x.vs 53
 b7:Blk u B7 [.slice (some ⟨BH,0,none⟩) l.cd.len l.cd.len] 34
 bH:Blk u BH (bvL m l.cd.len) 4
 lat:l.At u
 gat:BlAt u g
theorem Hz.kept {BF BG BX B7 BH:Nat}{l:Cf}{g:Rw Bool}{x:Rn}{m:Nat→Bool}{u u':World}(h:Hz BF BG BX B7 BH l g x m u)(hb:Below u.heap.size u u'):Hz BF BG BX B7 BH l g x m u':=⟨h.bF.kept hb,h.bG.kept hb,h.bX.kept hb,h.b7.kept hb,h.bH.kept hb,Cf.At.kept hb h.lat,h.gat.kept hb⟩
noncomputable def styB (l:Cf) (g:Rw Bool) (j:Int) (m:Nat→Bool) (p:Nat):Bool:=open Classical in decide (∀b ∈ l.ws g p,m b.toNat=true∨b=j)
def remB (l:Cf)(g:Rw Bool)(j:Int)(p:Nat):Bool:=decide (j=-1)||!l.lv g p
noncomputable def ehB (m:Nat→Bool) (A:Nat→Bool) (n:Nat):Bool:=open Classical in decide (∀p,p<n→m p=true→A p=true)
theorem zll (BF BG BX B7 BH:Nat)(l:Cf)(g:Rw Bool)(x:Rn)(m:Nat→Bool)(p:Nat)(w:World)(h:Hz BF BG BX B7 BH l g x m w)(hp:p<l.cd.len)(hn:l.cd.len≤100000):Calls Tryz.prog 41 #[.int .i64 p,.pointer (some ⟨BF,0,none⟩),.pointer (some ⟨BG,0,none⟩),.pointer (some ⟨B7,0,none⟩),.pointer (some ⟨BX,0,none⟩)] w fun e w'=>e=.returned (.bool (styB l g x.join m p))∧Below w.heap.size w w':=by
 have HY:Hid ((∀b ∈ l.ws g p,m b.toNat=true∨b=x.join)→styB l g x.join m p=true):=fun h=>by unfold styB;simpa using h
 have HN:Hid (∀b ∈ l.ws g p,¬(m b.toNat=true∨b=x.join)→styB l g x.join m p=false):=fun b hb h=>by
  unfold styB;rw[decide_eq_false_iff_not];exact fun k=>h (k b hb)
 have H1:=hyd h;generalize styB l g x.join m p=R at *;have h0:=zm5 l g p w h.lat h.gat hp;have rF:=h.bF.range;have cG:=h.bG.cell 0 rfl;clear h;go_enter Tryz.func41,Tryz.ntmps41
 go_wp2_with (refine wpList_load_mid rfl 44 (.tmp 1) rfl BF 0 (by kernel_rfl) l.vs _ rF Tryz.underlying44 rfl (by kernel_rfl) ?_)
 refine h0.mono ?_;rintro _ u2 ⟨v,rfl,hO,hb⟩;obtain⟨rw1,rfl,hrw,hrwl⟩:=hO.readW hn;have H2:=hyd (show (Hz BF BG BX B7 BH l g x m u2∧NmAt u2 rw1)∧Below w.heap.size w u2 from ⟨⟨H1.out.kept hb,hrw⟩,hb⟩);have HWS:Hid (∀k,k<rw1.len→∃q:Nat,rw1.x k=q∧q<l.cd.len):=fun k hk=>by
  have h1:rw1.x k ∈ rw1.ls:=Rw.mem_ls.2 ⟨k,hk,rfl⟩;rw[hrwl] at h1;obtain⟨q,e,hq⟩:=zfa.1 h1;exact⟨q,e,hq.1⟩
 have HWI:Hid (∀k,k<rw1.len→rw1.x k ∈ l.ws g p):=fun k hk=>by rw[←hrwl];exact Rw.mem_ls.2 ⟨k,hk,rfl⟩
 have HWA:Hid ((∀k,k<rw1.len→m (rw1.x k).toNat=true∨rw1.x k=x.join)→R=true):=fun h=>HY.out (fun b hb=>by
  rw[←hrwl] at hb;obtain⟨k,hk,rfl⟩:=Rw.mem_ls.1 hb;exact h k hk)
 have hbr:=hrw.bound;have HNR:=hyd hrw.nil;clear h0 hO hrw hrwl hb H1 rF cG HY;go_wp2;go_loopw [14] (fun i wr=>∃(k:Nat),k≤rw1.len∧i=.int .i64 k∧((Hz BF BG BX B7 BH l g x m wr∧NmAt wr rw1)∧Below w.heap.size w wr)∧∀j,j<k→m (rw1.x j).toNat=true∨rw1.x j=x.join) (fun i _=>rw1.len - (intOf i).toNat)
 case atStart=>exact⟨0,Nat.zero_le _,rfl,H2.out,fun j hj=>absurd hj (Nat.not_lt_zero _)⟩
 case round =>
  clear H2;obtain⟨k,hk,rfl,hB,hall⟩:=hrel;have HB:=hyd hB;have HL:=hyd hall;clear hB hall;by_cases hlt:k<rw1.len
  ·have ik:(k:Int)<rw1.len:=by omega
   have r0:=HB.out.1.2.row k hlt 0 _ rfl;simp only[Nat.add_zero,Nat.mul_one] at r0;obtain⟨q,hq,hql⟩:=HWS.out k hlt;have HN2:=hyd (HN.out _ (HWI.out k hlt));have HL2:Hid (m (rw1.x k).toNat=true∨rw1.x k=x.join→∀j,j<k+1→m (rw1.x j).toNat=true∨rw1.x j=x.join):=fun h j hj=>by
    by_cases e:j=k
    ·rw[e];exact h
    ·exact HL.out j (by omega)
   rw[hq] at r0 HN2 HL2;rw[Int.toNat_natCast] at HN2 HL2;rw[HNR.out (by omega)];have c7:=HB.out.1.1.b7.cell 0 rfl;have cH:=HB.out.1.1.bH.cell q (zd8 m hql);have cX:=HB.out.1.1.bX.cell 1 rfl;have iq:(q:Int)<l.cd.len:=by omega
   have HB1:=hyd HB.out;clear HB HL hq;generalize x.join=xj at *;cases hm:m q
   ·rw[hm] at cH HN2 HL2;by_cases ej:(q:Int)=xj
    ·have e1:((q:Int) != xj)=false:=by simpa using ej
     have HE:=hyd (HL2.out (Or.inr ej));clear HN2 HL2 hm ej;go_wp2;go_roundw
     case rel=>exact⟨k+1,by omega,by go_num,HB1.out,HE.out⟩
     case measure=>simp[intOf];omega
    ·have e1:((q:Int) != xj)=true:=by simpa using ej
     have HE:Hid (R=false):=HN2.out (fun h=>by
      rcases h with h | h
      ·cases h
      ·exact ej h)
     clear HN2 HL2 hm ej;go_wp2;go_ret;exact⟨zab HE.out.symm,HB1.out.2⟩
   ·rw[hm] at cH HL2;have HE:=hyd (HL2.out (Or.inl rfl));clear HN2 HL2 hm;go_wp2;go_roundw
    case rel=>exact⟨k+1,by omega,by go_num,HB1.out,HE.out⟩
    case measure=>simp[intOf];omega
  ·have ik:¬(k:Int)<rw1.len:=by omega
   have HE:Hid (R=true):=HWA.out (fun j hj=>HL.out j (by omega));go_wp2;go_ret;exact⟨zab HE.out.symm,HB.out.2⟩
theorem ziw (BF BG BX B7 BH:Nat)(l:Cf)(g:Rw Bool)(x:Rn)(m:Nat→Bool)(p:Nat)(w:World)(h:Hz BF BG BX B7 BH l g x m w)(hp:p<l.cd.len):Calls Tryz.prog 43 #[.int .i64 p,.pointer (some ⟨BX,0,none⟩),.pointer (some ⟨BF,0,none⟩),.pointer (some ⟨BG,0,none⟩)] w fun e w'=>e=.returned (.bool (remB l g x.join p))∧Below w.heap.size w w':=by
 have HR:Hid (remB l g x.join p=(decide (x.join=-1)||!l.lv g p)):=rfl;generalize remB l g x.join p=R at *;have h0:=zp2 l g p w h.lat h.gat hp;have rF:=h.bF.range;have cG:=h.bG.cell 0 rfl;have cX:=h.bX.cell 1 rfl;clear h;generalize x.join=xj at *;generalize l.lv g p=lb at *;by_cases ej:xj=-1
 ·subst ej;have HE:Hid (R=true):=HR.out;clear h0 HR;go_enter Tryz.func43,Tryz.ntmps43
  go_wp2;go_ret;exact⟨zab HE.out.symm,Below.refl _ _⟩
 ·have e1:(xj==-1)=false:=by simpa using ej
  have HE:Hid (R=!lb):=by show _=_;rw[HR.out,decide_eq_false ej];rfl
  clear ej HR;go_enter Tryz.func43,Tryz.ntmps43
  go_wp2_with (refine zcp (by kernel_rfl) 44 (.tmp 2) rfl BF 0 (by kernel_rfl) l.vs _ rF Tryz.underlying44 rfl (by kernel_rfl) ?_)
  refine h0.mono ?_;rintro _ u2 ⟨rfl,hb⟩;have H2:=hyd hb;clear h0 hb rF cG cX;cases lb
  ·have HE2:Hid (R=true):=HE.out;clear HE;go_wp2;go_ret;exact⟨zab HE2.out.symm,H2.out⟩
  ·have HE2:Hid (R=false):=HE.out;clear HE;go_wp2;go_ret;exact⟨zab HE2.out.symm,H2.out⟩
theorem zl5 (BF BG BX B7 BH:Nat)(l:Cf)(g:Rw Bool)(x:Rn)(m:Nat→Bool)(w:World)(h:Hz BF BG BX B7 BH l g x m w)(hn:l.cd.len≤100000):Calls Tryz.prog 45 #[.slice (some ⟨BH,0,none⟩) l.cd.len l.cd.len,.func (.func 41) #[] #[.pointer (some ⟨BF,0,none⟩),.pointer (some ⟨BG,0,none⟩),.pointer (some ⟨B7,0,none⟩),.pointer (some ⟨BX,0,none⟩)]] w fun e w'=>e=.returned (.bool (ehB m (styB l g x.join m) l.cd.len))∧Below w.heap.size w w':=by
 have HY:Hid ((∀p,p<l.cd.len→m p=true→styB l g x.join m p=true)→ehB m (styB l g x.join m) l.cd.len=true):=fun h=>by unfold ehB;simpa using h
 have HN:Hid (∀p,p<l.cd.len→m p=true→styB l g x.join m p=false→ehB m (styB l g x.join m) l.cd.len=false):=fun p hp h1 h2=>by
  unfold ehB;rw[decide_eq_false_iff_not];intro k;have:=k p hp h1;rw[h2] at this;cases this
 have H1:=hyd h;have HC:Hid (∀p u,p<l.cd.len→Hz BF BG BX B7 BH l g x m u→Calls Tryz.prog 41 #[.int .i64 (p:Nat),.pointer (some ⟨BF,0,none⟩),.pointer (some ⟨BG,0,none⟩),.pointer (some ⟨B7,0,none⟩),.pointer (some ⟨BX,0,none⟩)] u fun e u'=>e=.returned (.bool (styB l g x.join m p))∧Below u.heap.size u u'):=fun p u hp hu=>zll BF BG BX B7 BH l g x m p u hu hp hn;generalize ehB m (styB l g x.join m) l.cd.len=R at *;generalize styB l g x.join m=AA at *;clear h;go_enter Tryz.func45,Tryz.ntmps45
 go_wp2;go_loopw [9] (fun i wr=>∃(k:Nat),k≤l.cd.len∧i=.int .i64 k∧(Hz BF BG BX B7 BH l g x m wr∧Below w.heap.size w wr)∧∀p,p<k→m p=true→AA p=true) (fun i _=>l.cd.len - (intOf i).toNat)
 case atStart=>exact⟨0,Nat.zero_le _,rfl,⟨H1.out,Below.refl _ _⟩,fun j hj=>absurd hj (Nat.not_lt_zero _)⟩
 case round =>
  clear H1;obtain⟨k,hk,rfl,hB,hall⟩:=hrel;have HB:=hyd hB;have HL:=hyd hall;clear hB hall;by_cases hlt:k<l.cd.len
  ·have ik:(k:Int)<l.cd.len:=by omega
   have cH:=HB.out.1.bH.cell k (zd8 m hlt);have HL2:Hid ((m k=true→AA k=true)→∀j,j<k+1→m j=true→AA j=true):=fun h j hj=>by
    by_cases e:j=k
    ·rw[e];exact h
    ·exact HL.out j (by omega)
   have HN2:=hyd (HN.out k hlt);have h0:=HC.out k wr hlt HB.out.1;generalize AA k=ab at *;cases hm:m k
   ·rw[hm] at cH HL2;have HE:=hyd (HL2.out (fun h=>by cases h));have HB1:=hyd HB.out;clear HL2 HN2 HL HB hm h0;go_wp2;go_roundw
    case rel=>exact⟨k+1,by omega,by go_num,HB1.out,HE.out⟩
    case measure=>simp[intOf];omega
   ·rw[hm] at cH HL2 HN2;clear HL hm;go_wp2_with fail
    refine h0.mono ?_;rintro _ u3 ⟨rfl,hb⟩;have HB1:=hyd (show Hz BF BG BX B7 BH l g x m u3∧Below w.heap.size w u3 from ⟨HB.out.1.kept hb,Below.next HB.out.2 hb⟩);clear h0 hb HB cH;cases ab
    ·have HE:=hyd (HN2.out (by simp) (by simp));clear HL2 HN2;go_wp2;go_ret;exact⟨zab HE.out.symm,HB1.out.2⟩
    ·have HE:=hyd (HL2.out (fun _=>rfl));clear HL2 HN2;go_wp2;go_roundw
     case rel=>exact⟨k+1,by omega,by go_num,HB1.out,HE.out⟩
     case measure=>simp[intOf];omega
  ·have ik:¬(k:Int)<l.cd.len:=by omega
   have HE:Hid (R=true):=HY.out (fun j hj=>HL.out j (by omega));go_wp2;go_ret;exact⟨zab HE.out.symm,HB.out.2⟩
theorem zl1 (BF BG BX B7 BH:Nat)(l:Cf)(g:Rw Bool)(x:Rn)(m:Nat→Bool)(w:World)(h:Hz BF BG BX B7 BH l g x m w)(hn:l.cd.len≤100000):Calls Tryz.prog 45 #[.slice (some ⟨BH,0,none⟩) l.cd.len l.cd.len,.func (.func 43) #[] #[.pointer (some ⟨BX,0,none⟩),.pointer (some ⟨BF,0,none⟩),.pointer (some ⟨BG,0,none⟩)]] w fun e w'=>e=.returned (.bool (ehB m (remB l g x.join) l.cd.len))∧Below w.heap.size w w':=by
 have HY:Hid ((∀p,p<l.cd.len→m p=true→remB l g x.join p=true)→ehB m (remB l g x.join) l.cd.len=true):=fun h=>by unfold ehB;simpa using h
 have HN:Hid (∀p,p<l.cd.len→m p=true→remB l g x.join p=false→ehB m (remB l g x.join) l.cd.len=false):=fun p hp h1 h2=>by
  unfold ehB;rw[decide_eq_false_iff_not];intro k;have:=k p hp h1;rw[h2] at this;cases this
 have H1:=hyd h;have HC:Hid (∀p u,p<l.cd.len→Hz BF BG BX B7 BH l g x m u→Calls Tryz.prog 43 #[.int .i64 (p:Nat),.pointer (some ⟨BX,0,none⟩),.pointer (some ⟨BF,0,none⟩),.pointer (some ⟨BG,0,none⟩)] u fun e u'=>e=.returned (.bool (remB l g x.join p))∧Below u.heap.size u u'):=fun p u hp hu=>ziw BF BG BX B7 BH l g x m p u hu hp;generalize ehB m (remB l g x.join) l.cd.len=R at *;generalize remB l g x.join=AA at *;clear h;go_enter Tryz.func45,Tryz.ntmps45
 go_wp2;go_loopw [9] (fun i wr=>∃(k:Nat),k≤l.cd.len∧i=.int .i64 k∧(Hz BF BG BX B7 BH l g x m wr∧Below w.heap.size w wr)∧∀p,p<k→m p=true→AA p=true) (fun i _=>l.cd.len - (intOf i).toNat)
 case atStart=>exact⟨0,Nat.zero_le _,rfl,⟨H1.out,Below.refl _ _⟩,fun j hj=>absurd hj (Nat.not_lt_zero _)⟩
 case round =>
  clear H1;obtain⟨k,hk,rfl,hB,hall⟩:=hrel;have HB:=hyd hB;have HL:=hyd hall;clear hB hall;by_cases hlt:k<l.cd.len
  ·have ik:(k:Int)<l.cd.len:=by omega
   have cH:=HB.out.1.bH.cell k (zd8 m hlt);have HL2:Hid ((m k=true→AA k=true)→∀j,j<k+1→m j=true→AA j=true):=fun h j hj=>by
    by_cases e:j=k
    ·rw[e];exact h
    ·exact HL.out j (by omega)
   have HN2:=hyd (HN.out k hlt);have h0:=HC.out k wr hlt HB.out.1;generalize AA k=ab at *;cases hm:m k
   ·rw[hm] at cH HL2;have HE:=hyd (HL2.out (fun h=>by cases h));have HB1:=hyd HB.out;clear HL2 HN2 HL HB hm h0;go_wp2;go_roundw
    case rel=>exact⟨k+1,by omega,by go_num,HB1.out,HE.out⟩
    case measure=>simp[intOf];omega
   ·rw[hm] at cH HL2 HN2;clear HL hm;go_wp2_with fail
    refine h0.mono ?_;rintro _ u3 ⟨rfl,hb⟩;have HB1:=hyd (show Hz BF BG BX B7 BH l g x m u3∧Below w.heap.size w u3 from ⟨HB.out.1.kept hb,Below.next HB.out.2 hb⟩);clear h0 hb HB cH;cases ab
    ·have HE:=hyd (HN2.out (by simp) (by simp));clear HL2 HN2;go_wp2;go_ret;exact⟨zab HE.out.symm,HB1.out.2⟩
    ·have HE:=hyd (HL2.out (fun _=>rfl));clear HL2 HN2;go_wp2;go_roundw
     case rel=>exact⟨k+1,by omega,by go_num,HB1.out,HE.out⟩
     case measure=>simp[intOf];omega
  ·have ik:¬(k:Int)<l.cd.len:=by omega
   have HE:Hid (R=true):=HY.out (fun j hj=>HL.out j (by omega));go_wp2;go_ret;exact⟨zab HE.out.symm,HB.out.2⟩
end
end Go.Proofs.YtfobijdkoeifjaaGreatDoor
