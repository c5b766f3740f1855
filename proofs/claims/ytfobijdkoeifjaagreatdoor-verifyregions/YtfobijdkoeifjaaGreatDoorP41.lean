import Derived.Test.YtfobijdkoeifjaaGreatDoorP40
import Derived.Test.YtfobijdkoeifjaaGreatDoorP20
set_option maxRecDepth 100000
set_option maxHeartbeats 32000000
namespace Go.Proofs.YtfobijdkoeifjaaGreatDoor
section
open Go Go.RowKit
theorem zwx (c:Kl)(w:World)(hc:c.At w)(hcap:c.Cap)(hO:Og w)(hT:Pg2 w):Calls Tryz.prog 4 #[.agg #[.slice c.n.ao c.n.len c.n.cap,.slice c.g.ao c.g.len c.g.cap,.slice c.fs.ao c.fs.len c.fs.cap]] w fun e w'=>e=.returned (.bool true)∧Below w.heap.size w w':=by
 have B0:=zac w (.cells #[.slice c.n.ao c.n.len c.n.cap,.slice c.g.ao c.g.len c.g.cap,.slice c.fs.ao c.fs.len c.fs.cap] 28);have b:=Blk.new w c.cs 28;have H0:=hyd (show Below w.heap.size w _∧Blk _ w.heap.size c.cs 28 from ⟨B0,b⟩);have HD:=hyd (show c.At w∧(Og w∧Pg2 w)∧c.Cap from ⟨hc,⟨hO,hT⟩,hcap⟩);have h0:=zci _ (hO.kept B0) (hT.kept B0);clear B0 b hc hO hT hcap;go_enter Tryz.func4,Tryz.ntmps4
 go_wp2_with fail
 refine h0.mono ?_;rintro _ u1 ⟨rfl,hb⟩;have H1:=hyd (show Below w.heap.size w u1∧Blk u1 w.heap.size c.cs 28 from ⟨Below.next H0.out.1 hb,H0.out.2.kept hb⟩);clear h0 hb H0;have c0:=H1.out.2.cell 0 rfl;have c1:=H1.out.2.cell 1 rfl;have c2:=H1.out.2.cell 2 rfl;have h0:=zgq c 900 u1 (Kl.At.kept H1.out.1 HD.out.1);go_wp2_with fail
 refine h0.mono ?_;rintro e u2 ⟨⟨bb,rfl,_⟩,hb⟩;have H2:=hyd (show Below w.heap.size w u2∧Blk u2 w.heap.size c.cs 28 from ⟨Below.next H1.out.1 hb,H1.out.2.kept hb⟩);clear h0 hb H1 c0 c1 c2;cases bb
 ·have h0:=zci u2 (HD.out.2.1.1.kept H2.out.1) (HD.out.2.1.2.kept H2.out.1);go_wp2_with fail
  refine h0.mono ?_;rintro _ u3 ⟨rfl,hb⟩;have H3:=hyd (Below.next H2.out.1 hb);clear h0 hb;go_wp2;go_ret;exact⟨rfl,H3.out⟩
 have c0:=H2.out.2.cell 0 rfl;have c1:=H2.out.2.cell 1 rfl;have c2:=H2.out.2.cell 2 rfl;have h0:=zit c u2 (Kl.At.kept H2.out.1 HD.out.1) (HD.out.2.1.1.kept H2.out.1);go_wp2_with fail
 refine h0.mono ?_;rintro e u3 ⟨⟨k,r,er,rfl,hR⟩,hb⟩;have H3:=hyd (show Below w.heap.size w u3∧Blk u3 w.heap.size c.cs 28 from ⟨Below.next H2.out.1 hb,H2.out.2.kept hb⟩);have HR:=hyd hR;clear h0 hb hR H2 c0 c1 c2;have c0:=H3.out.2.cell 0 rfl;have c1:=H3.out.2.cell 1 rfl;have c2:=H3.out.2.cell 2 rfl;have h0:=zdg c u3 (Kl.At.kept H3.out.1 HD.out.1) HD.out.2.2 (HD.out.2.1.1.kept H3.out.1) (HD.out.2.1.2.kept H3.out.1);go_wp2_with fail
 refine h0.mono ?_;rintro e u4 ⟨⟨k',a',er',rfl,hR'⟩,hb⟩;have H4:=hyd (show Below w.heap.size w u4∧Blk u4 w.heap.size c.cs 28 from ⟨Below.next H3.out.1 hb,H3.out.2.kept hb⟩);have HM:=hyd (zsa HR.out hR');clear h0 hb hR' HR H3 c0 c1 c2;by_cases he:er=0
 ·subst he;rcases HM.out.2 rfl with ⟨h1,h2,h3⟩ | ⟨h1,h2,h3,j,h4,h5,h6⟩
  ·subst h1 h2 h3;clear HM;go_wp2;go_ret;exact⟨rfl,H4.out.1⟩
  ·subst h1 h4;have r14:u4.cell? ⟨c.fs.b,c.fs.o+j*18+14,none⟩=some (.slice (c.fs.x j).cd.ao (c.fs.x j).cd.len (c.fs.x j).cd.cap):=zaf (HD.out.1.fs.row j h5) H4.out.1 14 _ rfl;have c2:u4.cell? ⟨w.heap.size,2,none⟩=some (.slice (some ⟨c.fs.b,c.fs.o,none⟩) c.fs.len c.fs.cap):=by rw[←HD.out.1.fs.nil (by omega)];exact H4.out.2.cell 2 rfl
   have i1:(j:Int)<c.fs.len:=by omega
   have i2:(0:Int)≤j:=by omega
   have hbd:=HD.out.1.fs.bound;clear HM h5;generalize c.fs.x j=f at *;go_wp2;go_ret;exact⟨rfl,H4.out.1⟩
 ·obtain⟨h1,h2,h3⟩:=HM.out.1 he;have e1:(er != 0)=true:=by simpa using he
  subst h1 h2 h3;clear HM he;go_wp2;go_ret;exact⟨rfl,H4.out.1⟩
end
end Go.Proofs.YtfobijdkoeifjaaGreatDoor
