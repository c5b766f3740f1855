import Derived.Test.YtgioppfoceddfaaGreatP37
import Derived.Test.YtgioppfoceddfaaGreatP21
import Derived.Test.YtgioppfoceddfaaGreatP32
import Derived.Test.YtgioppfoceddfaaGreatP15
import Derived.Test.YtgioppfoceddfaaGreatP10
set_option maxRecDepth 100000
set_option maxHeartbeats 32000000
namespace Go.Proofs.YtgioppfoceddfaaGreat
section
open Go Go.RowKit
def lgV (n:Strs)(g:Grid):List Value:=[.slice n.ao n.len n.cap,.slice g.ao g.len g.cap]
structure Rn (w:World)(n:Strs)(g:Grid)(f:Fc)(nd:Nd)(u:World):Prop where
 bl:Below w.heap.size w u
 L:Blk u w.heap.size (lgV n g) 25
 F:Blk u (w.heap.size+1) f.vs 53
 N:Blk u (w.heap.size+2) nd.vs 86
theorem Rn.kept {w:World}{n:Strs}{g:Grid}{f:Fc}{nd:Nd}{u u':World}(h:Rn w n g f nd u)(hb:Below u.heap.size u u'):Rn w n g f nd u':=⟨Below.next h.bl hb,h.L.kept hb,h.F.kept hb,h.N.kept hb⟩
def rnW (w:World)(n:Strs)(g:Grid)(f:Fc)(nd:Nd):World:=((w.alloc (.cells (lgV n g).toArray 25)).alloc (.cells f.vs.toArray 53)).alloc (.cells nd.vs.toArray 86)
theorem rn_new (w:World)(n:Strs)(g:Grid)(f:Fc)(nd:Nd):Rn w n g f nd (rnW w n g f nd):=by
 have H:=zar [.cells (lgV n g).toArray 25,.cells f.vs.toArray 53,.cells nd.vs.toArray 86] w;have B0:=zap [.cells (lgV n g).toArray 25,.cells f.vs.toArray 53,.cells nd.vs.toArray 86] w;simp only[List.foldl] at H B0;exact⟨B0,H 0 (by simp),H 1 (by simp),H 2 (by simp)⟩
def rX (o1 o2 D wd A wa B wb we:Bool):Bool:=((((o1||o2)||(D&&!wd))||(A&&!wa))||(B&&!wb))||!we
def zds (n:Strs)(g:Grid)(s:Fl)(f:Fc)(b:Ns):Prop:=∀w:World,n.At w→g.At w→b.At w→Calls Tryz.prog 46 #[.agg (lgV n g).toArray,.slice s.ao s.len s.cap,.agg f.vs.toArray,.slice b.ao b.len b.cap] w fun e w'=>e=.returned (.bool (b.shp n g s.len f.slots.len))∧Below w.heap.size w w'
theorem zod {P:Program}{o:Oper}{a:Act}{C:World→Prop}{K':Act→Prop}{K:Act→World→Prop}{Q:Exit→Act→World→Prop}{w:World}(hw:C w)(h:o.quiet P a C K')(hK:∀a w,C w→K' a→K a w):o.wp P a w K Q:=by
 obtain⟨v,hv,hn⟩:=h;have h1:=hv w hw;unfold Oper.quietAt at h1;unfold Oper.wp;generalize (execOp a.eval o).run P w=r at h1 ⊢
 match r,h1 with
 | .ok (.value u) w',h1=>obtain⟨rfl,rfl⟩:=h1;exact hK _ _ hw hn
 | .ok .skip w',h1=>obtain⟨rfl,rfl⟩:=h1;exact hK _ _ hw hn
 | .ok (.enter f args) w',h1 =>
  obtain⟨rfl,hc⟩:=h1;rw[Oper.upon_enter];exact hc.mono (fun e w'' h=>by obtain⟨rfl,hC⟩:=h;exact hK _ _ hC hn)
theorem zgf {P:Program}{ops:Array Oper}{C:World→Prop}{Q:Exit→Act→World→Prop}:∀(l:List Oper) (a:Act) (w:World),C w→wpQuiet P ops C (fun a'=>∀w',C w'→Q .normal a' w') l a→wpList P ops Q l a w
 | [],a,w,hw,h=>h w hw
 | o :: l,a,w,hw,h=>by
  unfold wpQuiet at h;unfold wpList;split
  ·rename_i hq
   rw[if_pos hq] at h;exact Or.inl (zod hw h (fun a' w' hw' h'=>zgf l a' w' hw' h'))
  ·rename_i hq
   rw[if_neg hq] at h;exact zgf l _ w hw h
theorem zax {P:Program}{id:Nat}{Q:Exit→Act→World→Prop}{a:Act}{w:World}{l:List Oper}
  (h:wpQuiet P l.toArray (fun w'=>∃x:Gr w,w'=x.w) (fun a'=>∀w',(∃x:Gr w,w'=x.w)→Q .normal a' w') l a):(Code.region id l.toArray false).wp P Q a w :=
 wp_region_lit (zgf l a w ⟨⟨_,Below.refl _ _⟩,rfl⟩ h)
theorem zrc (n:Strs)(g:Grid)(s:Fl)(f:Fc)(nd:Nd)(w:World)(hn:n.At w)(hg:g.At w)(hd:nd.At w)(h1:zds n g s f nd.bd)(h2:zds n g s f nd.el) :
  Calls Tryz.prog 79 #[.agg (lgV n g).toArray,.slice s.ao s.len s.cap,.agg f.vs.toArray,.agg nd.vs.toArray] w fun e w'=>e=.returned (.bool (nd.shp n g s.len f.slots.len))∧Below w.heap.size w w':=by
 have HI:=hid (rn_new w n g f nd);have HH:=hid (show n.At w∧g.At w∧nd.At w∧zds n g s f nd.bd∧zds n g s f nd.el from ⟨hn,hg,hd,h1,h2⟩);obtain⟨R,hR⟩:∃R,R=nd.shp n g s.len f.slots.len:=⟨_,rfl⟩;rw[←hR];have HR:Hid (R=(!rndX n f.slots.len nd.h&&rndY n g s.len f.slots.len nd.h (nd.bd.shp n g s.len f.slots.len) (nd.el.shp n g s.len f.slots.len))):=by
  show _=_
  rw[hR,Nd.shp_eq hd,←zw9];rfl
 clear hn hg hd h1 h2 hR;have HX:Hid (rndX n f.slots.len nd.h=rX (decide (nd.h.op<1)) (decide (18<nd.h.op)) (ndD nd.h.op) (wthB nd.h.dst f.slots.len) (ndA nd.h.op) (wthB nd.h.a f.slots.len) (ndB nd.h.op) (wthB nd.h.b f.slots.len) (wthB nd.h.env n.len)):=by show _=_;rfl
 have HE:Hid (wthB nd.h.env n.len=inR n.len nd.h.env):=by show _=_;unfold wthB inR;rfl
 generalize hx:rndX n f.slots.len nd.h=X at *;have c0:=HI.out.N.cell 0 (v:=.int .i64 nd.h.op) rfl;go_enter Tryz.func79,Tryz.ntmps79
 go_upto_region 1 with fail
 have hw1:((w.alloc (.cells (lgV n g).toArray 25)).alloc (.cells f.vs.toArray 53)).alloc (.cells nd.vs.toArray 86)=rnW w n g f nd:=rfl
 try rw[hw1]
 generalize rnW w n g f nd=w1 at *;have hN:=zp1 nd.h.op w1;go_upto_region 2 with (fail)
 refine hN.mono ?_;rintro _ w1' ⟨rfl,hw1'⟩;subst hw1';go_upto_region 2 with fail
 clear hN hw1 c0;go_cut [64] (fun c wx=>c=.bool X∧Hid (Rn w n g f nd wx))
 case first =>
  have hE:=HE.out;generalize ndD nd.h.op=D at *;generalize ndA nd.h.op=A at *;generalize ndB nd.h.op=B at *;have hs1:∀q,Below w1'.heap.size w1' q→Calls Tryz.prog 43 #[.agg f.vs.toArray,.int .i64 nd.h.dst] q fun e w'=>e=.returned (.bool (wthB nd.h.dst f.slots.len))∧Below q.heap.size q w':=fun q _=>zfm f _ q;have hs2:∀q,Below w1'.heap.size w1' q→Calls Tryz.prog 43 #[.agg f.vs.toArray,.int .i64 nd.h.a] q fun e w'=>e=.returned (.bool (wthB nd.h.a f.slots.len))∧Below q.heap.size q w':=fun q _=>zfm f _ q;have hs3:∀q,Below w1'.heap.size w1' q→Calls Tryz.prog 43 #[.agg f.vs.toArray,.int .i64 nd.h.b] q fun e w'=>e=.returned (.bool (wthB nd.h.b f.slots.len))∧Below q.heap.size q w':=fun q _=>zfm f _ q;have hLb:∀q,Below w1'.heap.size w1' q→Calls Tryz.prog 63 #[.agg #[.slice n.ao n.len n.cap,.slice g.ao g.len g.cap],.int .i64 nd.h.env] q fun e w'=>e=.returned (.bool (wthB nd.h.env n.len))∧Below q.heap.size q w':=fun q _=>by rw[hE];exact zb1 n g nd.h.env q
  generalize wthB nd.h.dst f.slots.len=yD at *;generalize wthB nd.h.a f.slots.len=yA at *;generalize wthB nd.h.b f.slots.len=yB at *;clear hE HE;generalize wthB nd.h.env n.len=we at *;have q0:=fun x:Gr w1'=>Gr.cell x (HI.out.N.cell 0 (v:=.int .i64 nd.h.op) rfl);have q1:=fun x:Gr w1'=>Gr.cell x (HI.out.N.cell 1 (v:=.int .i64 nd.h.dst) rfl);have q2:=fun x:Gr w1'=>Gr.cell x (HI.out.N.cell 2 (v:=.int .i64 nd.h.a) rfl);have q3:=fun x:Gr w1'=>Gr.cell x (HI.out.N.cell 3 (v:=.int .i64 nd.h.b) rfl);have q5:=fun x:Gr w1'=>Gr.cell x (HI.out.N.cell 5 (v:=.int .i64 nd.h.env) rfl);have r0:=fun x:Gr w1'=>Gr.cell x (HI.out.L.cell 0 (v:=.slice n.ao n.len n.cap) rfl);have r1:=fun x:Gr w1'=>Gr.cell x (HI.out.L.cell 1 (v:=.slice g.ao g.len g.cap) rfl);have hF:∀u',(∃x:Gr w1',u'=x.w)→u'.rangeAt (w.heap.size+1) 0 f.vs:=by rintro _ ⟨x,rfl⟩;exact (HI.out.F.kept x.bl).range
  have hNE:Nonempty (Gr w1'):=⟨⟨_,Below.refl _ _⟩⟩;cases p1:decide (nd.h.op<1)
  ·rw[p1] at HX;cases p2:decide (18<nd.h.op)
   ·rw[p2] at HX;have p1x:¬(nd.h.op<1):=of_decide_eq_false p1;have p2x:¬(18<nd.h.op):=of_decide_eq_false p2;have p2y:¬(nd.h.op>18):=p2x;clear p1 p2;cases D
    ·cases A
     ·cases B
      ·refine zax ?_;iterate 9 go_big_quiet_step (fail)
       iterate 10 go_big_quiet_step (fail)
       iterate 10 go_big_quiet_step (fail)
       iterate 10 go_big_quiet_step (fail)
       iterate 3 go_big_quiet_step (fail)
       go_big_quiet_step ((go_at_call 63;exact Calls.gr _ (hLb _ (Gr.bl _))))
       iterate 2 go_big_quiet_step (fail)
       refine wpQuiet_nil ?_;rintro y1 ⟨xg,rfl⟩;have Bg:=xg.bl;generalize xg.w=y1 at Bg ⊢;clear q0 q1 q2 q3 q5 r0 r1 hF hNE hs1 hs2 hs3 hLb;go_wp2;go_meet
       case rel=>exact⟨by rw[HX.out];simp[rX],HI.out.kept Bg⟩
      ·cases yB
       ·refine zax ?_;iterate 9 go_big_quiet_step (fail)
        iterate 10 go_big_quiet_step (fail)
        iterate 10 go_big_quiet_step (fail)
        iterate 2 go_big_quiet_step (fail)
        go_big_quiet_want;refine zaa 53 (.tmp 6) rfl (w.heap.size+1) 0 (by kernel_rfl) f.vs _ hF Tryz.underlying53 rfl (by kernel_rfl) ?_;simp only[Act.put,zA,zB,zC];go_big_quiet_on;iterate 2 go_big_quiet_step (fail)
        go_big_quiet_step ((go_at_call 43;exact Calls.gr _ (hs3 _ (Gr.bl _))))
        iterate 4 go_big_quiet_step (fail)
        iterate 6 go_big_quiet_step (fail)
        refine wpQuiet_nil ?_;rintro y1 ⟨xg,rfl⟩;have Bg:=xg.bl;generalize xg.w=y1 at Bg ⊢;clear q0 q1 q2 q3 q5 r0 r1 hF hNE hs1 hs2 hs3 hLb;go_wp2;go_meet
        case rel=>exact⟨by rw[HX.out];simp[rX],HI.out.kept Bg⟩
       ·refine zax ?_;iterate 9 go_big_quiet_step (fail)
        iterate 10 go_big_quiet_step (fail)
        iterate 10 go_big_quiet_step (fail)
        iterate 2 go_big_quiet_step (fail)
        go_big_quiet_want;refine zaa 53 (.tmp 6) rfl (w.heap.size+1) 0 (by kernel_rfl) f.vs _ hF Tryz.underlying53 rfl (by kernel_rfl) ?_;simp only[Act.put,zA,zB,zC];go_big_quiet_on;iterate 2 go_big_quiet_step (fail)
        go_big_quiet_step ((go_at_call 43;exact Calls.gr _ (hs3 _ (Gr.bl _))))
        iterate 4 go_big_quiet_step (fail)
        iterate 3 go_big_quiet_step (fail)
        go_big_quiet_step ((go_at_call 63;exact Calls.gr _ (hLb _ (Gr.bl _))))
        iterate 2 go_big_quiet_step (fail)
        refine wpQuiet_nil ?_;rintro y1 ⟨xg,rfl⟩;have Bg:=xg.bl;generalize xg.w=y1 at Bg ⊢;clear q0 q1 q2 q3 q5 r0 r1 hF hNE hs1 hs2 hs3 hLb;go_wp2;go_meet
        case rel=>exact⟨by rw[HX.out];simp[rX],HI.out.kept Bg⟩
     ·cases yA
      ·refine zax ?_;iterate 9 go_big_quiet_step (fail)
       iterate 10 go_big_quiet_step (fail)
       iterate 2 go_big_quiet_step (fail)
       go_big_quiet_want;refine zaa 53 (.tmp 6) rfl (w.heap.size+1) 0 (by kernel_rfl) f.vs _ hF Tryz.underlying53 rfl (by kernel_rfl) ?_;simp only[Act.put,zA,zB,zC];go_big_quiet_on;iterate 2 go_big_quiet_step (fail)
       go_big_quiet_step ((go_at_call 43;exact Calls.gr _ (hs2 _ (Gr.bl _))))
       iterate 4 go_big_quiet_step (fail)
       iterate 16 go_big_quiet_step (fail)
       refine wpQuiet_nil ?_;rintro y1 ⟨xg,rfl⟩;have Bg:=xg.bl;generalize xg.w=y1 at Bg ⊢;clear q0 q1 q2 q3 q5 r0 r1 hF hNE hs1 hs2 hs3 hLb;go_wp2;go_meet
       case rel=>exact⟨by rw[HX.out];simp[rX],HI.out.kept Bg⟩
      ·cases B
       ·refine zax ?_;iterate 9 go_big_quiet_step (fail)
        iterate 10 go_big_quiet_step (fail)
        iterate 2 go_big_quiet_step (fail)
        go_big_quiet_want;refine zaa 53 (.tmp 6) rfl (w.heap.size+1) 0 (by kernel_rfl) f.vs _ hF Tryz.underlying53 rfl (by kernel_rfl) ?_;simp only[Act.put,zA,zB,zC];go_big_quiet_on;iterate 2 go_big_quiet_step (fail)
        go_big_quiet_step ((go_at_call 43;exact Calls.gr _ (hs2 _ (Gr.bl _))))
        iterate 4 go_big_quiet_step (fail)
        iterate 10 go_big_quiet_step (fail)
        iterate 3 go_big_quiet_step (fail)
        go_big_quiet_step ((go_at_call 63;exact Calls.gr _ (hLb _ (Gr.bl _))))
        iterate 2 go_big_quiet_step (fail)
        refine wpQuiet_nil ?_;rintro y1 ⟨xg,rfl⟩;have Bg:=xg.bl;generalize xg.w=y1 at Bg ⊢;clear q0 q1 q2 q3 q5 r0 r1 hF hNE hs1 hs2 hs3 hLb;go_wp2;go_meet
        case rel=>exact⟨by rw[HX.out];simp[rX],HI.out.kept Bg⟩
       ·cases yB
        ·refine zax ?_;iterate 9 go_big_quiet_step (fail)
         iterate 10 go_big_quiet_step (fail)
         iterate 2 go_big_quiet_step (fail)
         go_big_quiet_want;refine zaa 53 (.tmp 6) rfl (w.heap.size+1) 0 (by kernel_rfl) f.vs _ hF Tryz.underlying53 rfl (by kernel_rfl) ?_;simp only[Act.put,zA,zB,zC];go_big_quiet_on;iterate 2 go_big_quiet_step (fail)
         go_big_quiet_step ((go_at_call 43;exact Calls.gr _ (hs2 _ (Gr.bl _))))
         iterate 4 go_big_quiet_step (fail)
         iterate 2 go_big_quiet_step (fail)
         go_big_quiet_want;refine zaa 53 (.tmp 6) rfl (w.heap.size+1) 0 (by kernel_rfl) f.vs _ hF Tryz.underlying53 rfl (by kernel_rfl) ?_;simp only[Act.put,zA,zB,zC];go_big_quiet_on;iterate 2 go_big_quiet_step (fail)
         go_big_quiet_step ((go_at_call 43;exact Calls.gr _ (hs3 _ (Gr.bl _))))
         iterate 4 go_big_quiet_step (fail)
         iterate 6 go_big_quiet_step (fail)
         refine wpQuiet_nil ?_;rintro y1 ⟨xg,rfl⟩;have Bg:=xg.bl;generalize xg.w=y1 at Bg ⊢;clear q0 q1 q2 q3 q5 r0 r1 hF hNE hs1 hs2 hs3 hLb;go_wp2;go_meet
         case rel=>exact⟨by rw[HX.out];simp[rX],HI.out.kept Bg⟩
        ·refine zax ?_;iterate 9 go_big_quiet_step (fail)
         iterate 10 go_big_quiet_step (fail)
         iterate 2 go_big_quiet_step (fail)
         go_big_quiet_want;refine zaa 53 (.tmp 6) rfl (w.heap.size+1) 0 (by kernel_rfl) f.vs _ hF Tryz.underlying53 rfl (by kernel_rfl) ?_;simp only[Act.put,zA,zB,zC];go_big_quiet_on;iterate 2 go_big_quiet_step (fail)
         go_big_quiet_step ((go_at_call 43;exact Calls.gr _ (hs2 _ (Gr.bl _))))
         iterate 4 go_big_quiet_step (fail)
         iterate 2 go_big_quiet_step (fail)
         go_big_quiet_want;refine zaa 53 (.tmp 6) rfl (w.heap.size+1) 0 (by kernel_rfl) f.vs _ hF Tryz.underlying53 rfl (by kernel_rfl) ?_;simp only[Act.put,zA,zB,zC];go_big_quiet_on;iterate 2 go_big_quiet_step (fail)
         go_big_quiet_step ((go_at_call 43;exact Calls.gr _ (hs3 _ (Gr.bl _))))
         iterate 4 go_big_quiet_step (fail)
         iterate 3 go_big_quiet_step (fail)
         go_big_quiet_step ((go_at_call 63;exact Calls.gr _ (hLb _ (Gr.bl _))))
         iterate 2 go_big_quiet_step (fail)
         refine wpQuiet_nil ?_;rintro y1 ⟨xg,rfl⟩;have Bg:=xg.bl;generalize xg.w=y1 at Bg ⊢;clear q0 q1 q2 q3 q5 r0 r1 hF hNE hs1 hs2 hs3 hLb;go_wp2;go_meet
         case rel=>exact⟨by rw[HX.out];simp[rX],HI.out.kept Bg⟩
    ·cases yD
     ·refine zax ?_;iterate 9 go_big_quiet_step (fail)
      iterate 2 go_big_quiet_step (fail)
      go_big_quiet_want;refine zaa 53 (.tmp 6) rfl (w.heap.size+1) 0 (by kernel_rfl) f.vs _ hF Tryz.underlying53 rfl (by kernel_rfl) ?_;simp only[Act.put,zA,zB,zC];go_big_quiet_on;iterate 2 go_big_quiet_step (fail)
      go_big_quiet_step ((go_at_call 43;exact Calls.gr _ (hs1 _ (Gr.bl _))))
      iterate 4 go_big_quiet_step (fail)
      iterate 26 go_big_quiet_step (fail)
      refine wpQuiet_nil ?_;rintro y1 ⟨xg,rfl⟩;have Bg:=xg.bl;generalize xg.w=y1 at Bg ⊢;clear q0 q1 q2 q3 q5 r0 r1 hF hNE hs1 hs2 hs3 hLb;go_wp2;go_meet
      case rel=>exact⟨by rw[HX.out];simp[rX],HI.out.kept Bg⟩
     ·cases A
      ·cases B
       ·refine zax ?_;iterate 9 go_big_quiet_step (fail)
        iterate 2 go_big_quiet_step (fail)
        go_big_quiet_want;refine zaa 53 (.tmp 6) rfl (w.heap.size+1) 0 (by kernel_rfl) f.vs _ hF Tryz.underlying53 rfl (by kernel_rfl) ?_;simp only[Act.put,zA,zB,zC];go_big_quiet_on;iterate 2 go_big_quiet_step (fail)
        go_big_quiet_step ((go_at_call 43;exact Calls.gr _ (hs1 _ (Gr.bl _))))
        iterate 4 go_big_quiet_step (fail)
        iterate 10 go_big_quiet_step (fail)
        iterate 10 go_big_quiet_step (fail)
        iterate 3 go_big_quiet_step (fail)
        go_big_quiet_step ((go_at_call 63;exact Calls.gr _ (hLb _ (Gr.bl _))))
        iterate 2 go_big_quiet_step (fail)
        refine wpQuiet_nil ?_;rintro y1 ⟨xg,rfl⟩;have Bg:=xg.bl;generalize xg.w=y1 at Bg ⊢;clear q0 q1 q2 q3 q5 r0 r1 hF hNE hs1 hs2 hs3 hLb;go_wp2;go_meet
        case rel=>exact⟨by rw[HX.out];simp[rX],HI.out.kept Bg⟩
       ·cases yB
        ·refine zax ?_;iterate 9 go_big_quiet_step (fail)
         iterate 2 go_big_quiet_step (fail)
         go_big_quiet_want;refine zaa 53 (.tmp 6) rfl (w.heap.size+1) 0 (by kernel_rfl) f.vs _ hF Tryz.underlying53 rfl (by kernel_rfl) ?_;simp only[Act.put,zA,zB,zC];go_big_quiet_on;iterate 2 go_big_quiet_step (fail)
         go_big_quiet_step ((go_at_call 43;exact Calls.gr _ (hs1 _ (Gr.bl _))))
         iterate 4 go_big_quiet_step (fail)
         iterate 10 go_big_quiet_step (fail)
         iterate 2 go_big_quiet_step (fail)
         go_big_quiet_want;refine zaa 53 (.tmp 6) rfl (w.heap.size+1) 0 (by kernel_rfl) f.vs _ hF Tryz.underlying53 rfl (by kernel_rfl) ?_;simp only[Act.put,zA,zB,zC];go_big_quiet_on;iterate 2 go_big_quiet_step (fail)
         go_big_quiet_step ((go_at_call 43;exact Calls.gr _ (hs3 _ (Gr.bl _))))
         iterate 4 go_big_quiet_step (fail)
         iterate 6 go_big_quiet_step (fail)
         refine wpQuiet_nil ?_;rintro y1 ⟨xg,rfl⟩;have Bg:=xg.bl;generalize xg.w=y1 at Bg ⊢;clear q0 q1 q2 q3 q5 r0 r1 hF hNE hs1 hs2 hs3 hLb;go_wp2;go_meet
         case rel=>exact⟨by rw[HX.out];simp[rX],HI.out.kept Bg⟩
        ·refine zax ?_;iterate 9 go_big_quiet_step (fail)
         iterate 2 go_big_quiet_step (fail)
         go_big_quiet_want;refine zaa 53 (.tmp 6) rfl (w.heap.size+1) 0 (by kernel_rfl) f.vs _ hF Tryz.underlying53 rfl (by kernel_rfl) ?_;simp only[Act.put,zA,zB,zC];go_big_quiet_on;iterate 2 go_big_quiet_step (fail)
         go_big_quiet_step ((go_at_call 43;exact Calls.gr _ (hs1 _ (Gr.bl _))))
         iterate 4 go_big_quiet_step (fail)
         iterate 10 go_big_quiet_step (fail)
         iterate 2 go_big_quiet_step (fail)
         go_big_quiet_want;refine zaa 53 (.tmp 6) rfl (w.heap.size+1) 0 (by kernel_rfl) f.vs _ hF Tryz.underlying53 rfl (by kernel_rfl) ?_;simp only[Act.put,zA,zB,zC];go_big_quiet_on;iterate 2 go_big_quiet_step (fail)
         go_big_quiet_step ((go_at_call 43;exact Calls.gr _ (hs3 _ (Gr.bl _))))
         iterate 4 go_big_quiet_step (fail)
         iterate 3 go_big_quiet_step (fail)
         go_big_quiet_step ((go_at_call 63;exact Calls.gr _ (hLb _ (Gr.bl _))))
         iterate 2 go_big_quiet_step (fail)
         refine wpQuiet_nil ?_;rintro y1 ⟨xg,rfl⟩;have Bg:=xg.bl;generalize xg.w=y1 at Bg ⊢;clear q0 q1 q2 q3 q5 r0 r1 hF hNE hs1 hs2 hs3 hLb;go_wp2;go_meet
         case rel=>exact⟨by rw[HX.out];simp[rX],HI.out.kept Bg⟩
      ·cases yA
       ·refine zax ?_;iterate 9 go_big_quiet_step (fail)
        iterate 2 go_big_quiet_step (fail)
        go_big_quiet_want;refine zaa 53 (.tmp 6) rfl (w.heap.size+1) 0 (by kernel_rfl) f.vs _ hF Tryz.underlying53 rfl (by kernel_rfl) ?_;simp only[Act.put,zA,zB,zC];go_big_quiet_on;iterate 2 go_big_quiet_step (fail)
        go_big_quiet_step ((go_at_call 43;exact Calls.gr _ (hs1 _ (Gr.bl _))))
        iterate 4 go_big_quiet_step (fail)
        iterate 2 go_big_quiet_step (fail)
        go_big_quiet_want;refine zaa 53 (.tmp 6) rfl (w.heap.size+1) 0 (by kernel_rfl) f.vs _ hF Tryz.underlying53 rfl (by kernel_rfl) ?_;simp only[Act.put,zA,zB,zC];go_big_quiet_on;iterate 2 go_big_quiet_step (fail)
        go_big_quiet_step ((go_at_call 43;exact Calls.gr _ (hs2 _ (Gr.bl _))))
        iterate 4 go_big_quiet_step (fail)
        iterate 16 go_big_quiet_step (fail)
        refine wpQuiet_nil ?_;rintro y1 ⟨xg,rfl⟩;have Bg:=xg.bl;generalize xg.w=y1 at Bg ⊢;clear q0 q1 q2 q3 q5 r0 r1 hF hNE hs1 hs2 hs3 hLb;go_wp2;go_meet
        case rel=>exact⟨by rw[HX.out];simp[rX],HI.out.kept Bg⟩
       ·cases B
        ·refine zax ?_;iterate 9 go_big_quiet_step (fail)
         iterate 2 go_big_quiet_step (fail)
         go_big_quiet_want;refine zaa 53 (.tmp 6) rfl (w.heap.size+1) 0 (by kernel_rfl) f.vs _ hF Tryz.underlying53 rfl (by kernel_rfl) ?_;simp only[Act.put,zA,zB,zC];go_big_quiet_on;iterate 2 go_big_quiet_step (fail)
         go_big_quiet_step ((go_at_call 43;exact Calls.gr _ (hs1 _ (Gr.bl _))))
         iterate 4 go_big_quiet_step (fail)
         iterate 2 go_big_quiet_step (fail)
         go_big_quiet_want;refine zaa 53 (.tmp 6) rfl (w.heap.size+1) 0 (by kernel_rfl) f.vs _ hF Tryz.underlying53 rfl (by kernel_rfl) ?_;simp only[Act.put,zA,zB,zC];go_big_quiet_on;iterate 2 go_big_quiet_step (fail)
         go_big_quiet_step ((go_at_call 43;exact Calls.gr _ (hs2 _ (Gr.bl _))))
         iterate 4 go_big_quiet_step (fail)
         iterate 10 go_big_quiet_step (fail)
         iterate 3 go_big_quiet_step (fail)
         go_big_quiet_step ((go_at_call 63;exact Calls.gr _ (hLb _ (Gr.bl _))))
         iterate 2 go_big_quiet_step (fail)
         refine wpQuiet_nil ?_;rintro y1 ⟨xg,rfl⟩;have Bg:=xg.bl;generalize xg.w=y1 at Bg ⊢;clear q0 q1 q2 q3 q5 r0 r1 hF hNE hs1 hs2 hs3 hLb;go_wp2;go_meet
         case rel=>exact⟨by rw[HX.out];simp[rX],HI.out.kept Bg⟩
        ·cases yB
         ·refine zax ?_;iterate 9 go_big_quiet_step (fail)
          iterate 2 go_big_quiet_step (fail)
          go_big_quiet_want;refine zaa 53 (.tmp 6) rfl (w.heap.size+1) 0 (by kernel_rfl) f.vs _ hF Tryz.underlying53 rfl (by kernel_rfl) ?_;simp only[Act.put,zA,zB,zC];go_big_quiet_on;iterate 2 go_big_quiet_step (fail)
          go_big_quiet_step ((go_at_call 43;exact Calls.gr _ (hs1 _ (Gr.bl _))))
          iterate 4 go_big_quiet_step (fail)
          iterate 2 go_big_quiet_step (fail)
          go_big_quiet_want;refine zaa 53 (.tmp 6) rfl (w.heap.size+1) 0 (by kernel_rfl) f.vs _ hF Tryz.underlying53 rfl (by kernel_rfl) ?_;simp only[Act.put,zA,zB,zC];go_big_quiet_on;iterate 2 go_big_quiet_step (fail)
          go_big_quiet_step ((go_at_call 43;exact Calls.gr _ (hs2 _ (Gr.bl _))))
          iterate 4 go_big_quiet_step (fail)
          iterate 2 go_big_quiet_step (fail)
          go_big_quiet_want;refine zaa 53 (.tmp 6) rfl (w.heap.size+1) 0 (by kernel_rfl) f.vs _ hF Tryz.underlying53 rfl (by kernel_rfl) ?_;simp only[Act.put,zA,zB,zC];go_big_quiet_on;iterate 2 go_big_quiet_step (fail)
          go_big_quiet_step ((go_at_call 43;exact Calls.gr _ (hs3 _ (Gr.bl _))))
          iterate 4 go_big_quiet_step (fail)
          iterate 6 go_big_quiet_step (fail)
          refine wpQuiet_nil ?_;rintro y1 ⟨xg,rfl⟩;have Bg:=xg.bl;generalize xg.w=y1 at Bg ⊢;clear q0 q1 q2 q3 q5 r0 r1 hF hNE hs1 hs2 hs3 hLb;go_wp2;go_meet
          case rel=>exact⟨by rw[HX.out];simp[rX],HI.out.kept Bg⟩
         ·refine zax ?_;iterate 9 go_big_quiet_step (fail)
          iterate 2 go_big_quiet_step (fail)
          go_big_quiet_want;refine zaa 53 (.tmp 6) rfl (w.heap.size+1) 0 (by kernel_rfl) f.vs _ hF Tryz.underlying53 rfl (by kernel_rfl) ?_;simp only[Act.put,zA,zB,zC];go_big_quiet_on;iterate 2 go_big_quiet_step (fail)
          go_big_quiet_step ((go_at_call 43;exact Calls.gr _ (hs1 _ (Gr.bl _))))
          iterate 4 go_big_quiet_step (fail)
          iterate 2 go_big_quiet_step (fail)
          go_big_quiet_want;refine zaa 53 (.tmp 6) rfl (w.heap.size+1) 0 (by kernel_rfl) f.vs _ hF Tryz.underlying53 rfl (by kernel_rfl) ?_;simp only[Act.put,zA,zB,zC];go_big_quiet_on;iterate 2 go_big_quiet_step (fail)
          go_big_quiet_step ((go_at_call 43;exact Calls.gr _ (hs2 _ (Gr.bl _))))
          iterate 4 go_big_quiet_step (fail)
          iterate 2 go_big_quiet_step (fail)
          go_big_quiet_want;refine zaa 53 (.tmp 6) rfl (w.heap.size+1) 0 (by kernel_rfl) f.vs _ hF Tryz.underlying53 rfl (by kernel_rfl) ?_;simp only[Act.put,zA,zB,zC];go_big_quiet_on;iterate 2 go_big_quiet_step (fail)
          go_big_quiet_step ((go_at_call 43;exact Calls.gr _ (hs3 _ (Gr.bl _))))
          iterate 4 go_big_quiet_step (fail)
          iterate 3 go_big_quiet_step (fail)
          go_big_quiet_step ((go_at_call 63;exact Calls.gr _ (hLb _ (Gr.bl _))))
          iterate 2 go_big_quiet_step (fail)
          refine wpQuiet_nil ?_;rintro y1 ⟨xg,rfl⟩;have Bg:=xg.bl;generalize xg.w=y1 at Bg ⊢;clear q0 q1 q2 q3 q5 r0 r1 hF hNE hs1 hs2 hs3 hLb;go_wp2;go_meet
          case rel=>exact⟨by rw[HX.out];simp[rX],HI.out.kept Bg⟩
   ·rw[p2] at HX;have p1x:¬(nd.h.op<1):=of_decide_eq_false p1;have p2x:18<nd.h.op:=of_decide_eq_true p2;have p2y:nd.h.op>18:=p2x;clear p1 p2;refine zax ?_;iterate 45 go_big_quiet_step (fail)
    refine wpQuiet_nil ?_;rintro y1 ⟨xg,rfl⟩;have Bg:=xg.bl;generalize xg.w=y1 at Bg ⊢;clear q0 q1 q2 q3 q5 r0 r1 hF hNE hs1 hs2 hs3 hLb;go_wp2;go_meet
    case rel=>exact⟨by rw[HX.out];simp[rX],HI.out.kept Bg⟩
  ·rw[p1] at HX;have p1x:nd.h.op<1:=of_decide_eq_true p1;clear p1;refine zax ?_;iterate 45 go_big_quiet_step (fail)
   refine wpQuiet_nil ?_;rintro y1 ⟨xg,rfl⟩;have Bg:=xg.bl;generalize xg.w=y1 at Bg ⊢;clear q0 q1 q2 q3 q5 r0 r1 hF hNE hs1 hs2 hs3 hLb;go_wp2;go_meet
   case rel=>exact⟨by rw[HX.out];simp[rX],HI.out.kept Bg⟩
 case rest =>
  obtain⟨rfl,hI⟩:=hcut;clear HI;have HI:=hid hI.out;clear hI;cases X
  ·have h18:1≤nd.h.op∧nd.h.op≤18:=by have h:=HX.out;simp[rX] at h;omega
   replace HR:Hid (R=rndY n g s.len f.slots.len nd.h (nd.bd.shp n g s.len f.slots.len) (nd.el.shp n g s.len f.slots.len)):=by show _=_;rw[HR.out];rfl
   clear HX HE;obtain hop | hop | hop | hop | hop | hop | hop | hop | hop | hop | hop | hop | hop | hop | hop | hop | hop | hop:nd.h.op=1∨nd.h.op=2∨nd.h.op=3∨nd.h.op=4∨nd.h.op=5∨nd.h.op=6∨nd.h.op=7∨nd.h.op=8∨nd.h.op=9∨nd.h.op=10∨nd.h.op=11∨nd.h.op=12∨nd.h.op=13∨nd.h.op=14∨nd.h.op=15∨nd.h.op=16∨nd.h.op=17∨nd.h.op=18:=by omega
   ·clear h18;have c0:=HI.out.N.cell 0 (v:=.int .i64 1) (by rw[←hop];rfl)
    go_wp2;go_ret;exact⟨zab (by rw[HR.out];unfold rndY;rw[if_neg (by omega),if_neg (by omega),if_neg (by omega),if_neg (by omega),if_neg (by omega),if_neg (by omega)]),HI.out.bl⟩
   ·clear h18;have c0:=HI.out.N.cell 0 (v:=.int .i64 2) (by rw[←hop];rfl)
    have c4:=HI.out.N.cell 4 (v:=.int .i64 nd.h.n) rfl;cases q0:(nd.h.n==0)
    ·cases q1:(nd.h.n==1)
     ·go_wp2;go_ret;exact⟨zab (by rw[HR.out];unfold rndY;rw[if_pos hop];rw[q0,q1];rfl),HI.out.bl⟩
     ·go_wp2;go_ret;exact⟨zab (by rw[HR.out];unfold rndY;rw[if_pos hop];rw[q0,q1];rfl),HI.out.bl⟩
    ·go_wp2;go_ret;exact⟨zab (by rw[HR.out];unfold rndY;rw[if_pos hop];rw[q0];rfl),HI.out.bl⟩
   ·clear h18;have c0:=HI.out.N.cell 0 (v:=.int .i64 3) (by rw[←hop];rfl)
    go_wp2;go_ret;exact⟨zab (by rw[HR.out];unfold rndY;rw[if_neg (by omega),if_neg (by omega),if_neg (by omega),if_neg (by omega),if_neg (by omega),if_neg (by omega)]),HI.out.bl⟩
   ·clear h18;have c0:=HI.out.N.cell 0 (v:=.int .i64 4) (by rw[←hop];rfl)
    have c4:=HI.out.N.cell 4 (v:=.int .i64 nd.h.n) rfl;by_cases q0:6≤nd.h.n
    ·have q0x:nd.h.n≥6:=q0;by_cases q1:nd.h.n≤12
     ·go_wp2;go_ret;exact⟨zab (by rw[HR.out];unfold rndY;rw[if_neg (by omega),if_pos hop];simp[q0,q1]),HI.out.bl⟩
     ·go_wp2;go_ret;exact⟨zab (by rw[HR.out];unfold rndY;rw[if_neg (by omega),if_pos hop];simp[q0,q1]),HI.out.bl⟩
    ·have q0x:¬(nd.h.n≥6):=q0;go_wp2;go_ret;exact⟨zab (by rw[HR.out];unfold rndY;rw[if_neg (by omega),if_pos hop];rw[decide_eq_false (Int.not_le.2 q0)];rfl),HI.out.bl⟩
   ·clear h18;have c0:=HI.out.N.cell 0 (v:=.int .i64 5) (by rw[←hop];rfl)
    go_wp2;go_ret;exact⟨zab (by rw[HR.out];unfold rndY;rw[if_neg (by omega),if_neg (by omega),if_neg (by omega),if_neg (by omega),if_neg (by omega),if_neg (by omega)]),HI.out.bl⟩
   ·clear h18;have c0:=HI.out.N.cell 0 (v:=.int .i64 6) (by rw[←hop];rfl)
    go_wp2;go_ret;exact⟨zab (by rw[HR.out];unfold rndY;rw[if_neg (by omega),if_neg (by omega),if_neg (by omega),if_neg (by omega),if_neg (by omega),if_neg (by omega)]),HI.out.bl⟩
   ·clear h18;have c0:=HI.out.N.cell 0 (v:=.int .i64 7) (by rw[←hop];rfl)
    go_wp2;go_ret;exact⟨zab (by rw[HR.out];unfold rndY;rw[if_neg (by omega),if_neg (by omega),if_neg (by omega),if_neg (by omega),if_neg (by omega),if_neg (by omega)]),HI.out.bl⟩
   ·clear h18;have c0:=HI.out.N.cell 0 (v:=.int .i64 8) (by rw[←hop];rfl)
    go_wp2;go_ret;exact⟨zab (by rw[HR.out];unfold rndY;rw[if_neg (by omega),if_neg (by omega),if_neg (by omega),if_neg (by omega),if_neg (by omega),if_neg (by omega)]),HI.out.bl⟩
   ·clear h18;have c0:=HI.out.N.cell 0 (v:=.int .i64 9) (by rw[←hop];rfl)
    have HV:=hid (show R=(decide (∀i,i<nd.h.ar.len→wthB (nd.h.ar.f i) f.slots.len=true)&&wthB nd.h.n s.len) from by rw[HR.out];unfold rndY;rw[if_neg (by omega),if_neg (by omega),if_pos hop]);have HA:=hid HH.out.2.2.1.ar;clear HR;go_wp2;go_loopw [12] (fun i wr=>∃k:Nat,k≤nd.h.ar.len∧i=.int .i64 k∧Hid (Rn w n g f nd wr∧∀i,i<k→wthB (nd.h.ar.f i) f.slots.len=true)) (fun i _=>nd.h.ar.len - (intOf i).toNat)
    case atStart=>exact⟨0,by omega,rfl,⟨HI.out,fun i hi=>absurd hi (Nat.not_lt_zero _)⟩⟩
    case round =>
     clear HI c0;obtain⟨k,hk,rfl,hJ⟩:=hrel;have HJ:=hid hJ.out;clear hJ;have hbd:=HA.out.bound;have c11:=HJ.out.1.N.cell 11 (v:=.slice nd.h.ar.ao nd.h.ar.len nd.h.ar.cap) rfl;by_cases hlt:k<nd.h.ar.len
     ·have ij:(k:Int)<nd.h.ar.len:=by omega
      have hao:=HA.out.nil (by omega);have ce:=(HA.out.kept HJ.out.1.bl).cell k hlt;rw[hao] at c11;go_upto_region 13 with fail
      have q11:=fun x:Gr wr=>Gr.cell x c11;have qe:=fun x:Gr wr=>Gr.cell x ce;have hF:∀u',(∃x:Gr wr,u'=x.w)→u'.rangeAt (w.heap.size+1) 0 f.vs:=by rintro _ ⟨x,rfl⟩;exact (HJ.out.1.F.kept x.bl).range
      have hsl:∀q,Below wr.heap.size wr q→Calls Tryz.prog 43 #[.agg f.vs.toArray,.int .i64 (nd.h.ar.f k)] q fun e w'=>e=.returned (.bool (wthB (nd.h.ar.f k) f.slots.len))∧Below q.heap.size q w':=fun q _=>zfm f _ q;have hNE:Nonempty (Gr wr):=⟨⟨_,Below.refl _ _⟩⟩;clear c11 ce hao;refine zag (by kernel_rfl) (by kernel_rfl) ?_;go_big_quiet_want;refine zaa 53 (.tmp 6) rfl (w.heap.size+1) 0 (by kernel_rfl) f.vs _ hF Tryz.underlying53 rfl (by kernel_rfl) ?_;simp only[Act.put,zA,zB,zC];go_big_quiet_on;iterate 5 go_big_quiet_step (fail)
      go_big_quiet_step ((go_at_call 43;exact Calls.gr _ (hsl _ (Gr.bl _))))
      iterate 1 go_big_quiet_step (fail)
      refine wpQuiet_nil ?_;rintro y1 ⟨xg,rfl⟩;have Bg:=xg.bl;generalize xg.w=y1 at Bg ⊢;have HJ2:=hid (HJ.out.1.kept Bg);clear q11 qe hF hsl hNE xg Bg;cases hq:wthB (nd.h.ar.f k) f.slots.len
      ·go_wp2;go_ret;exact⟨zab (by rw[HV.out,decide_eq_false (fun h=>by have:=h k hlt;rw[hq] at this;cases this)];rfl),HJ2.out.bl⟩
      ·go_wp2;go_roundw
       case rel=>exact⟨k+1,by omega,by go_num,⟨HJ2.out,fun i hi=>by
        rcases Nat.lt_or_ge i k with h | h
        ·exact HJ.out.2 i h
        ·have e:i=k:=by omega
         subst e;exact hq⟩⟩
       case measure=>simp[intOf];omega
     ·have ek:k=nd.h.ar.len:=by omega
      subst ek;have c4:=HJ.out.1.N.cell 4 (v:=.int .i64 nd.h.n) rfl;have hall:decide (∀i,i<nd.h.ar.len→wthB (nd.h.ar.f i) f.slots.len=true)=true:=decide_eq_true HJ.out.2;have HV2:=hid (show R=wthB nd.h.n s.len from by rw[HV.out,hall];rfl)
      clear hall HV;by_cases q0:0≤nd.h.n
      ·have q0x:nd.h.n≥0:=q0;by_cases q1:nd.h.n<s.len
       ·go_wp2;go_ret;exact⟨zab (by rw[HV2.out];simp[wthB,q0,q1]),HJ.out.1.bl⟩
       ·go_wp2;go_ret;exact⟨zab (by rw[HV2.out];simp[wthB,q0,q1]),HJ.out.1.bl⟩
      ·have q0x:¬(nd.h.n≥0):=q0;go_wp2;go_ret;exact⟨zab (by rw[HV2.out];unfold wthB;rw[decide_eq_false (Int.not_le.2 q0)];rfl),HJ.out.1.bl⟩
   ·clear h18;have c0:=HI.out.N.cell 0 (v:=.int .i64 10) (by rw[←hop];rfl)
    go_wp2;go_ret;exact⟨zab (by rw[HR.out];unfold rndY;rw[if_neg (by omega),if_neg (by omega),if_neg (by omega),if_neg (by omega),if_neg (by omega),if_neg (by omega)]),HI.out.bl⟩
   ·clear h18;have c0:=HI.out.N.cell 0 (v:=.int .i64 11) (by rw[←hop];rfl)
    go_wp2;go_ret;exact⟨zab (by rw[HR.out];unfold rndY;rw[if_neg (by omega),if_neg (by omega),if_neg (by omega),if_neg (by omega),if_neg (by omega),if_neg (by omega)]),HI.out.bl⟩
   ·clear h18;have c0:=HI.out.N.cell 0 (v:=.int .i64 12) (by rw[←hop];rfl)
    have l0:=HI.out.L.cell 0 (v:=.slice n.ao n.len n.cap) rfl;have l1:=HI.out.L.cell 1 (v:=.slice g.ao g.len g.cap) rfl;have hT:wc.rangeAt (w.heap.size+2) 6 nd.h.t.vs:=by
     have h1:=HI.out.N;intro i v hv
     match i,hv with
     | 0,hv=>rw[←Option.some.inj hv];exact h1.cell 6 rfl
     | 1,hv=>rw[←Option.some.inj hv];exact h1.cell 7 rfl
     | 2,hv=>rw[←Option.some.inj hv];exact h1.cell 8 rfl
     | 3,hv=>rw[←Option.some.inj hv];exact h1.cell 9 rfl
     | 4,hv=>rw[←Option.some.inj hv];exact h1.cell 10 rfl
     | _+5,hv=>simp[Ty.vs] at hv
    go_wp2_with (first | (refine wpList_load_mid rfl 38 (.tmp 117) rfl (w.heap.size+2) 6 (by kernel_rfl) nd.h.t.vs _ hT Tryz.underlying38 rfl (by kernel_rfl) ?_))
    refine (zco n g nd.h.t wc (HH.out.1.kept HI.out.bl) (HH.out.2.1.kept HI.out.bl) (HH.out.2.2.1.t.kept HI.out.bl)).mono ?_;rintro _ y2 ⟨rfl,hb2⟩;clear hT c0 l0 l1;go_wp2;go_ret;exact⟨zab (by rw[HR.out];unfold rndY;rw[if_neg (by omega),if_neg (by omega),if_neg (by omega),if_pos hop]),Below.next HI.out.bl hb2⟩
   ·clear h18;have c0:=HI.out.N.cell 0 (v:=.int .i64 13) (by rw[←hop];rfl)
    go_wp2;go_ret;exact⟨zab (by rw[HR.out];unfold rndY;rw[if_neg (by omega),if_neg (by omega),if_neg (by omega),if_neg (by omega),if_neg (by omega),if_neg (by omega)]),HI.out.bl⟩
   ·clear h18;have c0:=HI.out.N.cell 0 (v:=.int .i64 14) (by rw[←hop];rfl)
    go_wp2;go_ret;exact⟨zab (by rw[HR.out];unfold rndY;rw[if_neg (by omega),if_neg (by omega),if_neg (by omega),if_neg (by omega),if_neg (by omega),if_neg (by omega)]),HI.out.bl⟩
   ·clear h18;have c0:=HI.out.N.cell 0 (v:=.int .i64 15) (by rw[←hop];rfl)
    have c4:=HI.out.N.cell 4 (v:=.int .i64 nd.h.n) rfl;have l0:=HI.out.L.cell 0 (v:=.slice n.ao n.len n.cap) rfl;by_cases q0:0≤nd.h.n
    ·have q0x:nd.h.n≥0:=q0;by_cases q1:nd.h.n<n.len
     ·go_wp2;go_ret;exact⟨zab (by rw[HR.out];unfold rndY;rw[if_neg (by omega),if_neg (by omega),if_neg (by omega),if_neg (by omega),if_pos hop];simp[wthB,q0,q1]),HI.out.bl⟩
     ·go_wp2;go_ret;exact⟨zab (by rw[HR.out];unfold rndY;rw[if_neg (by omega),if_neg (by omega),if_neg (by omega),if_neg (by omega),if_pos hop];simp[wthB,q0,q1]),HI.out.bl⟩
    ·have q0x:¬(nd.h.n≥0):=q0;go_wp2;go_ret;exact⟨zab (by rw[HR.out];unfold rndY;rw[if_neg (by omega),if_neg (by omega),if_neg (by omega),if_neg (by omega),if_pos hop];unfold wthB;rw[decide_eq_false (Int.not_le.2 q0)];rfl),HI.out.bl⟩
   ·clear h18;have c0:=HI.out.N.cell 0 (v:=.int .i64 16) (by rw[←hop];rfl)
    have l0:=HI.out.L.cell 0 (v:=.slice n.ao n.len n.cap) rfl;have l1:=HI.out.L.cell 1 (v:=.slice g.ao g.len g.cap) rfl;have c12:=HI.out.N.cell 12 (v:=.slice nd.bd.ao nd.bd.len nd.bd.cap) rfl;have bF:=HI.out.F;have HV:=hid (show R=(nd.bd.shp n g s.len f.slots.len&&nd.el.shp n g s.len f.slots.len) from by rw[HR.out];unfold rndY;rw[if_neg (by omega),if_neg (by omega),if_neg (by omega),if_neg (by omega),if_neg (by omega),if_pos (by omega)]);clear HR;have hc1:=HH.out.2.2.2.1 wc (HH.out.1.kept HI.out.bl) (HH.out.2.1.kept HI.out.bl) (HH.out.2.2.1.bd.kept HI.out.bl);generalize nd.bd.shp n g s.len f.slots.len=x1 at *;go_wp2_with (first | (refine wpList_load_mid rfl 53 (.tmp 6) rfl (w.heap.size+1) 0 (by kernel_rfl) f.vs _ bF.range Tryz.underlying53 rfl (by kernel_rfl) ?_) | (refine za0 (by kernel_rfl) 53 (.tmp 6) rfl (w.heap.size+1) 0 (by kernel_rfl) f.vs _ bF.range Tryz.underlying53 rfl (by kernel_rfl) ?_))
    refine hc1.mono ?_;rintro _ y2 ⟨rfl,hb2⟩;have HI2:=hid (HI.out.kept hb2);clear bF c0 l0 l1 c12 hc1 hb2 HI;cases x1
    ·go_wp2;go_ret;exact⟨zab (by rw[HV.out];rfl),HI2.out.bl⟩
    ·have l0:=HI2.out.L.cell 0 (v:=.slice n.ao n.len n.cap) rfl;have l1:=HI2.out.L.cell 1 (v:=.slice g.ao g.len g.cap) rfl;have c13:=HI2.out.N.cell 13 (v:=.slice nd.el.ao nd.el.len nd.el.cap) rfl;have bF:=HI2.out.F;have hc2:=HH.out.2.2.2.2 y2 (HH.out.1.kept HI2.out.bl) (HH.out.2.1.kept HI2.out.bl) (HH.out.2.2.1.el.kept HI2.out.bl);generalize nd.el.shp n g s.len f.slots.len=x2 at *;go_wp2_with (first | (refine wpList_load_mid rfl 53 (.tmp 6) rfl (w.heap.size+1) 0 (by kernel_rfl) f.vs _ bF.range Tryz.underlying53 rfl (by kernel_rfl) ?_) | (refine za0 (by kernel_rfl) 53 (.tmp 6) rfl (w.heap.size+1) 0 (by kernel_rfl) f.vs _ bF.range Tryz.underlying53 rfl (by kernel_rfl) ?_))
     refine hc2.mono ?_;rintro _ y3 ⟨rfl,hb3⟩;clear bF l0 l1 c13 hc2;go_wp2;go_ret;exact⟨zab (by rw[HV.out];rfl),Below.next HI2.out.bl hb3⟩
   ·clear h18;have c0:=HI.out.N.cell 0 (v:=.int .i64 17) (by rw[←hop];rfl)
    have l0:=HI.out.L.cell 0 (v:=.slice n.ao n.len n.cap) rfl;have l1:=HI.out.L.cell 1 (v:=.slice g.ao g.len g.cap) rfl;have c12:=HI.out.N.cell 12 (v:=.slice nd.bd.ao nd.bd.len nd.bd.cap) rfl;have bF:=HI.out.F;have HV:=hid (show R=(nd.bd.shp n g s.len f.slots.len&&nd.el.shp n g s.len f.slots.len) from by rw[HR.out];unfold rndY;rw[if_neg (by omega),if_neg (by omega),if_neg (by omega),if_neg (by omega),if_neg (by omega),if_pos (by omega)]);clear HR;have hc1:=HH.out.2.2.2.1 wc (HH.out.1.kept HI.out.bl) (HH.out.2.1.kept HI.out.bl) (HH.out.2.2.1.bd.kept HI.out.bl);generalize nd.bd.shp n g s.len f.slots.len=x1 at *;go_wp2_with (first | (refine wpList_load_mid rfl 53 (.tmp 6) rfl (w.heap.size+1) 0 (by kernel_rfl) f.vs _ bF.range Tryz.underlying53 rfl (by kernel_rfl) ?_) | (refine za0 (by kernel_rfl) 53 (.tmp 6) rfl (w.heap.size+1) 0 (by kernel_rfl) f.vs _ bF.range Tryz.underlying53 rfl (by kernel_rfl) ?_))
    refine hc1.mono ?_;rintro _ y2 ⟨rfl,hb2⟩;have HI2:=hid (HI.out.kept hb2);clear bF c0 l0 l1 c12 hc1 hb2 HI;cases x1
    ·go_wp2;go_ret;exact⟨zab (by rw[HV.out];rfl),HI2.out.bl⟩
    ·have l0:=HI2.out.L.cell 0 (v:=.slice n.ao n.len n.cap) rfl;have l1:=HI2.out.L.cell 1 (v:=.slice g.ao g.len g.cap) rfl;have c13:=HI2.out.N.cell 13 (v:=.slice nd.el.ao nd.el.len nd.el.cap) rfl;have bF:=HI2.out.F;have hc2:=HH.out.2.2.2.2 y2 (HH.out.1.kept HI2.out.bl) (HH.out.2.1.kept HI2.out.bl) (HH.out.2.2.1.el.kept HI2.out.bl);generalize nd.el.shp n g s.len f.slots.len=x2 at *;go_wp2_with (first | (refine wpList_load_mid rfl 53 (.tmp 6) rfl (w.heap.size+1) 0 (by kernel_rfl) f.vs _ bF.range Tryz.underlying53 rfl (by kernel_rfl) ?_) | (refine za0 (by kernel_rfl) 53 (.tmp 6) rfl (w.heap.size+1) 0 (by kernel_rfl) f.vs _ bF.range Tryz.underlying53 rfl (by kernel_rfl) ?_))
     refine hc2.mono ?_;rintro _ y3 ⟨rfl,hb3⟩;clear bF l0 l1 c13 hc2;go_wp2;go_ret;exact⟨zab (by rw[HV.out];rfl),Below.next HI2.out.bl hb3⟩
   ·clear h18;have c0:=HI.out.N.cell 0 (v:=.int .i64 18) (by rw[←hop];rfl)
    go_wp2;go_ret;exact⟨zab (by rw[HR.out];unfold rndY;rw[if_neg (by omega),if_neg (by omega),if_neg (by omega),if_neg (by omega),if_neg (by omega),if_neg (by omega)]),HI.out.bl⟩
  ·go_wp2;go_ret;exact⟨zab (by rw[HR.out];rfl),HI.out.bl⟩
end
end Go.Proofs.YtgioppfoceddfaaGreat
