import Derived.Test.YtfobijdkoeifjaaGreatDoorP5
set_option maxRecDepth 100000
set_option maxHeartbeats 32000000
namespace Go.Proofs.YtfobijdkoeifjaaGreatDoor
section
structure Sq (n:Strs)(g:Grid):Prop where
 len:g.len=n.len
 pos:0<n.len
 le8:n.len≤8
 L:∀r,r<g.len→g.L r=n.len
section
variable {n:Strs} {g:Grid}
theorem sq_of (h:(zay n&&za1 g n.len)=true):Sq n g:=by
 rw[Bool.and_eq_true] at h;have h1:=zgh h.1;have h2:=zdg h.2;exact⟨h2.1,h1.1,h1.2,h2.2⟩
theorem zgt (hS:Sq n g){a b:Nat}(ha:a<n.len)(hb:b<n.len):g.le a b=true↔Lq g a b:=by
 unfold Grid.le Lq;rw[hS.L a (by have:=hS.len;omega)]
 simp[show a<g.len by have:=hS.len;omega,hb]
theorem zph (hS:Sq n g){a b:Nat}(h:g.le a b=true):a<n.len∧b<n.len:=by
 unfold Grid.le at h;simp only[Bool.and_eq_true,decide_eq_true_eq] at h;have:=hS.L a h.1;have:=hS.len;omega
theorem zeb (hS:Sq n g){a b:Nat}(ha:a<n.len):(g.U a).testBit b=true↔b<n.len∧Lq g a b:=by
 rw[U_bit g (by have:=hS.len;omega),Bool.and_eq_true,decide_eq_true_eq]
 constructor
 ·rintro ⟨_,h⟩;have:=zph hS h;exact⟨this.2,(zgt hS ha this.2).1 h⟩
 ·rintro ⟨h1,h2⟩;exact⟨by have:=hS.le8;omega,(zgt hS ha h1).2 h2⟩
theorem zh2 (hS:Sq n g){a b:Nat}(hb:b<n.len):(g.D b).testBit a=true↔a<n.len∧Lq g a b:=by
 rw[D_bit g,Bool.and_eq_true,decide_eq_true_eq]
 constructor
 ·rintro ⟨_,h⟩;have:=zph hS h;exact⟨this.1,(zgt hS this.1 hb).1 h⟩
 ·rintro ⟨h1,h2⟩;exact⟨by have:=hS.le8;omega,(zgt hS h1 hb).2 h2⟩
theorem zoy (n:Strs)(g:Grid)(a b c:Nat):abvB n g a b c=true↔Lq g a c∧Lq g b c∧∀d,d<n.len→Lq g a d→Lq g b d→Lq g c d:=by
 unfold abvB Lq;rw[Bool.and_eq_true,Bool.and_eq_true,decide_eq_true_eq]
 constructor
 ·rintro ⟨⟨h1,h2⟩,h3⟩;refine⟨h1,h2,fun d hd q1 q2=>?_⟩;have:=h3 d hd;rw[q1,q2] at this
  simpa using this
 ·rintro ⟨h1,h2,h3⟩;refine⟨⟨h1,h2⟩,fun d hd=>?_⟩;cases q1:g.B a d
  ·rfl
  ·cases q2:g.B b d
   ·rfl
   ·rw[h3 d hd q1 q2];rfl
theorem zol (n:Strs)(g:Grid)(a b c:Nat):blwB n g a b c=true↔Lq g c a∧Lq g c b∧∀d,d<n.len→Lq g d a→Lq g d b→Lq g d c:=by
 unfold blwB Lq;rw[Bool.and_eq_true,Bool.and_eq_true,decide_eq_true_eq]
 constructor
 ·rintro ⟨⟨h1,h2⟩,h3⟩;refine⟨h1,h2,fun d hd q1 q2=>?_⟩;have:=h3 d hd;rw[q1,q2] at this
  simpa using this
 ·rintro ⟨h1,h2,h3⟩;refine⟨⟨h1,h2⟩,fun d hd=>?_⟩;cases q1:g.B d a
  ·rfl
  ·cases q2:g.B d b
   ·rfl
   ·rw[h3 d hd q1 q2];rfl
theorem zes (p:Nat→Bool):∀f k,findI p f k=-1∨∃j,k≤j∧j<k+f∧findI p f k=(j:Int)∧p j=true
 | 0,_=>Or.inl rfl
 | f+1,k=>by
  unfold findI;by_cases h:p k=true
  ·rw[if_pos h];exact Or.inr ⟨k,Nat.le_refl _,by omega,rfl,h⟩
  ·rw[if_neg h];rcases zes p f (k+1) with h0 | ⟨j,h1,h2,h3⟩
   ·exact Or.inl h0
   ·exact Or.inr ⟨j,by omega,by omega,h3⟩
theorem zgk (p:Nat→Bool)(j:Nat)(h:p j=true):∀f k,k≤j→j<k+f→findI p f k≠-1
 | 0,_,_,_=>by omega
 | f+1,k,hk,hj=>by
  unfold findI;by_cases h0:p k=true
  ·rw[if_pos h0];omega
  ·rw[if_neg h0];refine zgk p j h f (k+1) ?_ (by omega);by_cases e:k=j
   ·subst e;exact absurd h h0
   ·omega
def abOk (n:Strs)(g:Grid)(a b:Nat):Bool :=
 ((if a=b then g.B a b else !(g.B a b&&g.B b a))&&decide (∀c,c<n.len→(g.B a b&&g.B b c&&!g.B a c)=false))&&(findI (abvB n g a b) n.len 0 != -1&&findI (blwB n g a b) n.len 0 != -1)
def zgs (n:Strs)(g:Grid):Bool:=(zay n&&za1 g n.len)&&decide (∀a,a<n.len→∀b,b<n.len→abOk n g a b=true)
theorem zm2 (hF:zae n g=true){a b:Nat}(ha:a<n.len)(hb:b<n.len):abOk n g a b=true:=by
 unfold abOk;rw[Bool.and_eq_true,Bool.and_eq_true,Bool.and_eq_true,bne_iff_ne,bne_iff_ne,decide_eq_true_eq];refine⟨⟨?_,fun c hc=>?_⟩,?_,?_⟩
 ·by_cases e:a=b
  ·subst e;rw[if_pos rfl];exact zbs hF ha
  ·rw[if_neg e];cases q1:g.B a b
   ·rfl
   ·cases q2:g.B b a
    ·rfl
    ·exact absurd (zic hF ha hb q1 q2) e
 ·cases q1:g.B a b
  ·rfl
  ·cases q2:g.B b c
   ·rfl
   ·rw[show g.B a c=true from zfc hF ha hb hc q1 q2];rfl
 ·obtain⟨h1,h2,h3,h4⟩:=(zh4 hF ha hb).2;exact zgk _ _ ((zoy n g a b _).2 ⟨h2,h3,h4⟩) _ _ (Nat.zero_le _) (by omega)
 ·obtain⟨h1,h2,h3,h4⟩:=(mt_is hF ha hb).2;exact zgk _ _ ((zol n g a b _).2 ⟨h2,h3,h4⟩) _ _ (Nat.zero_le _) (by omega)
theorem zmj (hS:(zay n&&za1 g n.len)=true)(h:∀a,a<n.len→∀b,b<n.len→abOk n g a b=true):zae n g=true:=by
 have s:=sq_of hS;have refl:∀a,a<n.len→Lq g a a:=fun a ha=>by
  have:=h a ha a ha;unfold abOk at this;rw[Bool.and_eq_true,Bool.and_eq_true,if_pos rfl] at this;exact this.1.1
 have anti:∀a b,a<n.len→b<n.len→Lq g a b→Lq g b a→a=b:=fun a b ha hb q1 q2=>by
  by_cases e:a=b
  ·exact e
  ·have:=h a ha b hb;unfold abOk at this;rw[Bool.and_eq_true,Bool.and_eq_true,if_neg e,show g.B a b=true from q1,show g.B b a=true from q2] at this;exact absurd this.1.1 (by simp)
 have trans:∀a b c,a<n.len→b<n.len→c<n.len→Lq g a b→Lq g b c→Lq g a c:=fun a b c ha hb hc q1 q2=>by
  have:=h a ha b hb;unfold abOk at this;rw[Bool.and_eq_true,Bool.and_eq_true,decide_eq_true_eq] at this;have:=this.1.2 c hc;rw[show g.B a b=true from q1,show g.B b c=true from q2] at this
  simpa [Lq] using this
 unfold zae;rw[hS,Bool.true_and,Bool.and_eq_true]
 constructor
 ·refine znq fun a ha=>?_;have ha':a<n.len:=by have:=s.len;omega
  unfold zc1;rw[Bool.and_eq_true,beq_iff_eq,decide_eq_true_eq];refine⟨?_,fun b hb hbit=>?_⟩
  ·apply Nat.eq_of_testBit_eq
   intro i;rw[Nat.testBit_and,Nat.testBit_two_pow,Bool.eq_iff_iff,Bool.and_eq_true,zeb s ha',zh2 s ha',decide_eq_true_eq]
   constructor
   ·rintro ⟨⟨h1,h2⟩,_,h3⟩;exact anti a i ha' h1 h2 h3
   ·rintro rfl;exact⟨⟨ha',refl a ha'⟩,ha',refl a ha'⟩
  ·have hb':b<n.len:=by have:=s.len;omega
   have h1:=(zeb s ha').1 hbit;exact zb8.2 fun i hi=>by
    have h2:=(zeb s hb').1 hi;exact (zeb s ha').2 ⟨h2.1,trans a b i ha' hb' h2.1 h1.2 h2.2⟩
 ·refine zpg fun a ha b hb=>?_;have ha':a<n.len:=by have:=s.len;omega
  have hb':b<n.len:=by omega
  have hab:=h a ha' b hb';unfold abOk at hab;rw[Bool.and_eq_true,Bool.and_eq_true,Bool.and_eq_true,bne_iff_ne,bne_iff_ne] at hab;have l8:=s.le8;have le:=s.len;unfold zcz;rw[Bool.and_eq_true,bne_iff_ne,bne_iff_ne]
  constructor
  ·rcases zes (abvB n g a b) n.len 0 with h0 | ⟨j,_,hj,_,h4⟩
   ·exact absurd h0 hab.2.1
   ·obtain⟨q1,q2,q3⟩:=(zoy n g a b j).1 h4;have up:∀i,(((2 ^ g.len - 1) &&& g.U a) &&& g.U b).testBit i=true↔i<n.len∧Lq g a i∧Lq g b i:=fun i=>by
     rw[Nat.testBit_and,Nat.testBit_and,Bool.and_eq_true,Bool.and_eq_true,all_bit,decide_eq_true_eq,zeb s ha',zeb s hb']
     constructor
     ·rintro ⟨⟨h1,h2⟩,h3⟩;exact⟨h2.1,h2.2,h3.2⟩
     ·rintro ⟨h1,h2,h3⟩;exact⟨⟨by omega,h1,h2⟩,h1,h3⟩
    refine zc3 g.U _ j ((up j).2 ⟨by omega,q1,q2⟩) ?_ 8 0 (Nat.zero_le _) (by omega);exact zb8.2 fun i hi=>by
     obtain⟨r1,r2,r3⟩:=(up i).1 hi;exact (zeb s (by omega)).2 ⟨r1,q3 i r1 r2 r3⟩
  ·rcases zes (blwB n g a b) n.len 0 with h0 | ⟨j,_,hj,_,h4⟩
   ·exact absurd h0 hab.2.2
   ·obtain⟨q1,q2,q3⟩:=(zol n g a b j).1 h4;have dn:∀i,(((2 ^ g.len - 1) &&& g.D a) &&& g.D b).testBit i=true↔i<n.len∧Lq g i a∧Lq g i b:=fun i=>by
     rw[Nat.testBit_and,Nat.testBit_and,Bool.and_eq_true,Bool.and_eq_true,all_bit,decide_eq_true_eq,zh2 s ha',zh2 s hb']
     constructor
     ·rintro ⟨⟨h1,h2⟩,h3⟩;exact⟨h2.1,h2.2,h3.2⟩
     ·rintro ⟨h1,h2,h3⟩;exact⟨⟨by omega,h1,h2⟩,h1,h3⟩
    refine zc3 g.D _ j ((dn j).2 ⟨by omega,q1,q2⟩) ?_ 8 0 (Nat.zero_le _) (by omega);exact zb8.2 fun i hi=>by
     obtain⟨r1,r2,r3⟩:=(dn i).1 hi;exact (zh2 s (by omega)).2 ⟨r1,q3 i r1 r2 r3⟩
theorem zj0 (n:Strs)(g:Grid):zgs n g=zae n g:=by
 rw[Bool.eq_iff_iff];unfold zgs;rw[Bool.and_eq_true,decide_eq_true_eq]
 constructor
 ·rintro ⟨h1,h2⟩;exact zmj h1 h2
 ·intro h;refine⟨?_,fun a ha b hb=>zm2 h ha hb⟩;unfold zae at h;rw[Bool.and_eq_true] at h;exact h.1
end
end
section
open Go.RowKit
theorem zdp (p:Nat→Bool)(N:Nat)(h:findI p N 0≠-1):0≤findI p N 0:=by
 rcases zes p N 0 with h0 | ⟨j,_,_,h3,_⟩
 ·exact absurd h0 h
 ·rw[h3];omega
theorem rf_no {n:Strs}{g:Grid}{a b:Nat}(ha:a<n.len)(hb:b<n.len)(h:abOk n g a b=false):zae n g=false:=by
 rw[←zj0];unfold zgs;rw[Bool.and_eq_false_iff,decide_eq_false_iff_not]
 right
 intro hh;rw[hh a ha b hb] at h;exact Bool.noConfusion h
theorem zoc (n:Strs)(g:Grid)(w:World)(hn:n.At w)(hg:g.At w) :
    Calls Tryz.prog 56 #[.agg #[.slice n.ao n.len n.cap,.slice g.ao g.len g.cap]] w fun e w'=>e=.returned (.bool (zae n g))∧Below w.heap.size w w':=by
  by_cases hS:(zay n&&za1 g n.len)=true
  · have s:=sq_of hS
    have hq:SqAt n g w:=⟨hn,hg,s.pos,s.le8,s.len,fun r hr=>s.L r (by have:=s.len;omega)⟩
    have B0:=Box2.start w (.slice n.ao n.len n.cap) (.slice g.ao g.len g.cap) 25
    have hsh:=zj9 n g _ (hn.kept B0.bl) (hg.kept B0.bl)
    have hjn:=fun (wr:World) (hB:Box2 w wr (.slice n.ao n.len n.cap) (.slice g.ao g.len g.cap)) (a b:Nat) (ha:a<n.len) (hb:b<n.len)=>ztg n g wr a b (hq.kept hB.bl) ha hb
    have hmt:=fun (wr:World) (hB:Box2 w wr (.slice n.ao n.len n.cap) (.slice g.ao g.len g.cap)) (a b:Nat) (ha:a<n.len) (hb:b<n.len)=>zr3 n g wr a b (hq.kept hB.bl) ha hb
    rw[hS] at hsh
    rw[hq.ao,hq.len] at hsh B0 hjn hmt ⊢
    have HSH:=hsh
    have HJ:Hid (∀(wr:World) (hB:Box2 w wr (.slice n.ao n.len n.cap) (.slice (some ⟨g.gb,g.go,none⟩) n.len g.cap)) (a b:Nat) (ha:a<n.len) (hb:b<n.len),Calls Tryz.prog 95 #[.agg #[.slice n.ao n.len n.cap,.slice (some ⟨g.gb,g.go,none⟩) n.len g.cap],.int .i64 a,.int .i64 b] wr fun e w'=>e=.returned (.int .i64 (findI (abvB n g a b) n.len 0))∧Below wr.heap.size wr w'):=hjn
    have HM:Hid (∀(wr:World) (hB:Box2 w wr (.slice n.ao n.len n.cap) (.slice (some ⟨g.gb,g.go,none⟩) n.len g.cap)) (a b:Nat) (ha:a<n.len) (hb:b<n.len),Calls Tryz.prog 96 #[.agg #[.slice n.ao n.len n.cap,.slice (some ⟨g.gb,g.go,none⟩) n.len g.cap],.int .i64 a,.int .i64 b] wr fun e w'=>e=.returned (.int .i64 (findI (blwB n g a b) n.len 0))∧Below wr.heap.size wr w'):=hmt
    have HS:Hid ((zay n&&za1 g n.len)=true):=hS
    have l8:=s.le8
    clear hjn hmt hS s hsh
    have H0:Hid (Calls Tryz.prog 94 #[.agg #[.slice n.ao n.len n.cap,.slice (some ⟨g.gb,g.go,none⟩) n.len g.cap]] (w.alloc (.cells #[.slice n.ao n.len n.cap,.slice (some ⟨g.gb,g.go,none⟩) n.len g.cap] 25)) fun e w'=>e=.returned (.bool true)∧Below (w.alloc (.cells #[.slice n.ao n.len n.cap,.slice (some ⟨g.gb,g.go,none⟩) n.len g.cap] 25)).heap.size (w.alloc (.cells #[.slice n.ao n.len n.cap,.slice (some ⟨g.gb,g.go,none⟩) n.len g.cap] 25)) w'):=HSH
    clear HSH
    go_enter Tryz.func56,Tryz.ntmps56
    go_wp2_with fail
    refine H0.out.mono ?_
    rintro e w1 ⟨rfl,hb1⟩
    have B1:=B0.step hb1
    clear hb1 B0 H0
    have c0:=B1.c0
    have c1:=B1.c1
    go_wp2
    clear c0 c1
    go_loopw [4] (fun i wr=>∃a:Nat,a≤n.len∧i=.int .i64 a∧(∀x,x<a→∀y,y<n.len→abOk n g x y=true)∧Box2 w wr (.slice n.ao n.len n.cap) (.slice (some ⟨g.gb,g.go,none⟩) n.len g.cap)) (fun i _=>n.len - (intOf i).toNat)
    case atStart=>exact⟨0,Nat.zero_le _,rfl,fun _ h=>absurd h (Nat.not_lt_zero _),B1⟩
    case round =>
      obtain⟨a,ha,rfl,hdone,hB⟩:=hrel
      clear B1
      have HD:Hid (∀x,x<a→∀y,y<n.len→abOk n g x y=true):=hdone
      clear hdone
      by_cases hlt:a<n.len
      · go_wp2
        go_loopw [5] (fun i wr=>∃b:Nat,b≤n.len∧i=.int .i64 b∧(∀y,y<b→abOk n g a y=true)∧Box2 w wr (.slice n.ao n.len n.cap) (.slice (some ⟨g.gb,g.go,none⟩) n.len g.cap)) (fun i _=>n.len - (intOf i).toNat)
        case atStart=>exact⟨0,Nat.zero_le _,rfl,fun _ h=>absurd h (Nat.not_lt_zero _),hB⟩
        case round =>
          obtain⟨b,hb,rfl,hdone2,hB2⟩:=hrel
          clear hB
          have HD2:Hid (∀y,y<b→abOk n g a y=true):=hdone2
          clear hdone2
          by_cases hltb:b<n.len
          · have q2:=hq.kept hB2.bl
            have c0:=hB2.c0
            have c1:=hB2.c1
            have ra:=q2.row hlt
            have rb:=q2.row hltb
            have fab:=q2.cell hlt hltb
            have fba:=q2.cell hltb hlt
            have ia:(a:Int)<n.len:=by omega
            have ib:(b:Int)<n.len:=by omega
            have HNO:Hid (abOk n g a b=false→zae n g=false):=fun h=>rf_no hlt hltb h
            clear q2
            -- the first question
            by_cases t1:(if a=b then g.B a b else !(g.B a b&&g.B b a))=true
            · have T1:Hid ((if a=b then g.B a b else !(g.B a b&&g.B b a))=true):=t1
              have ways:(a=b∧g.B a b=true)∨(a≠b∧g.B a b=false)∨(a≠b∧g.B a b=true∧g.B b a=false):=by
                by_cases e:a=b
                · rw[if_pos e] at t1;exact Or.inl ⟨e,t1⟩
                · rw[if_neg e] at t1
                  cases u1:g.B a b
                  · exact Or.inr (Or.inl ⟨e,rfl⟩)
                  · rw[u1] at t1
                    exact Or.inr (Or.inr ⟨e,rfl,by simpa using t1⟩)
              clear t1
              rcases ways with ⟨e,hab⟩ | ⟨e,hab⟩ | ⟨e,hab,hba⟩
              · have e1:((a:Int)==b)=true:=by rw[beq_iff_eq];omega
                have e2:((a:Int) != b)=false:=by rw[bne_eq_false_iff_eq];omega
                rw[hab] at fab
                clear e
                go_wp2
                clear e1 e2
                clear c0 c1 ra rb fab fba
                go_loopw [6] (fun i wr=>∃c:Nat,c≤n.len∧i=.int .i64 c∧(∀z,z<c→(g.B a b&&g.B b z&&!g.B a z)=false)∧Box2 w wr (.slice n.ao n.len n.cap) (.slice (some ⟨g.gb,g.go,none⟩) n.len g.cap)) (fun i _=>n.len - (intOf i).toNat)
                case atStart=>exact⟨0,Nat.zero_le _,rfl,fun _ h=>absurd h (Nat.not_lt_zero _),hB2⟩
                case round =>
                  obtain⟨c,hc,rfl,hdone3,hB3⟩:=hrel
                  clear hB2
                  have HD3:Hid (∀z,z<c→(g.B a b&&g.B b z&&!g.B a z)=false):=hdone3
                  clear hdone3
                  have q3:=hq.kept hB3.bl
                  have c0:=hB3.c0
                  have c1:=hB3.c1
                  by_cases hltc:c<n.len
                  · have ra:=q3.row hlt
                    have rb:=q3.row hltb
                    have fab:=q3.cell hlt hltb
                    have fbc:=q3.cell hltb hltc
                    have fac:=q3.cell hlt hltc
                    have ic:(c:Int)<n.len:=by omega
                    rw[hab] at fab
                    clear q3
                    have HN:Hid ((g.B a b&&g.B b c&&!g.B a c)=false→∀z,z<c+1→(g.B a b&&g.B b z&&!g.B a z)=false):=fun hh z hz=>by
                      rcases Nat.lt_succ_iff_lt_or_eq.1 hz with h | h
                      · exact HD3.out z h
                      · subst h;exact hh
                    have HQ:Hid ((g.B a b&&g.B b c&&!g.B a c)=true→zae n g=false):=fun hh=>HNO.out (by
                      unfold abOk
                      rw[Bool.and_eq_false_iff,Bool.and_eq_false_iff]
                      refine Or.inl (Or.inr (decide_eq_false_iff_not.2 fun hk=>?_))
                      rw[hk c hltc] at hh
                      exact Bool.noConfusion hh)
                    cases v2:g.B b c
                    all_goals cases v3:g.B a c
                    all_goals
                      rw[v2] at fbc
                      rw[v3] at fac
                      go_wp2
                      first
                        | (go_roundw
                           case rel => exact ⟨c + 1, by omega, by go_num, HN.out (by rw [hab, v2, v3]; rfl), hB3⟩
                           case measure => simp [intOf]; omega)
                        | (go_ret
                           exact ⟨zab (HQ.out (by rw [hab, v2, v3]; rfl)).symm, hB3.bl⟩)
                  · clear q3
                    go_wp2_with fail
                    refine (HJ.out _ hB3 a b hlt hltb).mono ?_
                    rintro e w4 ⟨rfl,hb4⟩
                    have B4:=hB3.step hb4
                    clear hb4 c0 c1
                    have c0:=B4.c0
                    have c1:=B4.c1
                    by_cases hj:findI (abvB n g a b) n.len 0=-1
                    · have HF:Hid (zae n g=false):=HNO.out (by unfold abOk;rw[hj];simp)
                      have dj:decide (findI (abvB n g a b) n.len 0<0)=true:=by rw[hj];decide
                      clear hj
                      generalize findI (abvB n g a b) n.len 0=fj at *
                      go_wp2
                      all_goals (go_ret;exact⟨zab HF.out.symm,B4.bl⟩)
                    · have pj:=zdp _ _ hj
                      have HJ1:Hid (findI (abvB n g a b) n.len 0≠-1):=hj
                      clear hj
                      have dj:decide (findI (abvB n g a b) n.len 0<0)=false:=by rw[decide_eq_false_iff_not];omega
                      generalize hfj:findI (abvB n g a b) n.len 0=fj at pj dj ⊢
                      have HFJ:Hid (findI (abvB n g a b) n.len 0=fj):=hfj
                      clear hfj
                      go_wp2_with fail
                      refine (HM.out _ B4 a b hlt hltb).mono ?_
                      rintro e w5 ⟨rfl,hb5⟩
                      have B5:=B4.step hb5
                      clear hb5 c0 c1
                      by_cases hm:findI (blwB n g a b) n.len 0=-1
                      · have HF:Hid (zae n g=false):=HNO.out (by unfold abOk;rw[hm];simp)
                        have dm:decide (findI (blwB n g a b) n.len 0<0)=true:=by rw[hm];decide
                        clear hm
                        generalize findI (blwB n g a b) n.len 0=fm at *
                        go_wp2
                        all_goals (go_ret;exact⟨zab HF.out.symm,B5.bl⟩)
                      · have pm:=zdp _ _ hm
                        have HOK:Hid (abOk n g a b=true):=by
                          show abOk n g a b=true
                          unfold abOk
                          rw[T1.out,decide_eq_true (fun z hz=>HD3.out z (by omega)),bne_iff_ne.2 HJ1.out,bne_iff_ne.2 hm];rfl
                        have dm:decide (findI (blwB n g a b) n.len 0<0)=false:=by rw[decide_eq_false_iff_not];omega
                        clear hm
                        generalize findI (blwB n g a b) n.len 0=fm at *
                        go_wp2
                        go_roundw
                        case rel =>
                          refine⟨b+1,by omega,by go_num,fun y hy=>?_,B5⟩
                          rcases Nat.lt_succ_iff_lt_or_eq.1 hy with h | h
                          · exact HD2.out y h
                          · subst h;exact HOK.out
                        case measure=>simp[intOf];omega
              · have e1:((a:Int)==b)=false:=by rw[beq_eq_false_iff_ne];omega
                have e2:((a:Int) != b)=true:=by rw[bne_iff_ne];omega
                rw[hab] at fab
                clear e
                go_wp2
                clear e1 e2
                clear c0 c1 ra rb fab fba
                go_loopw [6] (fun i wr=>∃c:Nat,c≤n.len∧i=.int .i64 c∧(∀z,z<c→(g.B a b&&g.B b z&&!g.B a z)=false)∧Box2 w wr (.slice n.ao n.len n.cap) (.slice (some ⟨g.gb,g.go,none⟩) n.len g.cap)) (fun i _=>n.len - (intOf i).toNat)
                case atStart=>exact⟨0,Nat.zero_le _,rfl,fun _ h=>absurd h (Nat.not_lt_zero _),hB2⟩
                case round =>
                  obtain⟨c,hc,rfl,hdone3,hB3⟩:=hrel
                  clear hB2
                  have HD3:Hid (∀z,z<c→(g.B a b&&g.B b z&&!g.B a z)=false):=hdone3
                  clear hdone3
                  have q3:=hq.kept hB3.bl
                  have c0:=hB3.c0
                  have c1:=hB3.c1
                  by_cases hltc:c<n.len
                  · have ra:=q3.row hlt
                    have rb:=q3.row hltb
                    have fab:=q3.cell hlt hltb
                    have fbc:=q3.cell hltb hltc
                    have fac:=q3.cell hlt hltc
                    have ic:(c:Int)<n.len:=by omega
                    rw[hab] at fab
                    clear q3
                    have HN:Hid ((g.B a b&&g.B b c&&!g.B a c)=false→∀z,z<c+1→(g.B a b&&g.B b z&&!g.B a z)=false):=fun hh z hz=>by
                      rcases Nat.lt_succ_iff_lt_or_eq.1 hz with h | h
                      · exact HD3.out z h
                      · subst h;exact hh
                    have HQ:Hid ((g.B a b&&g.B b c&&!g.B a c)=true→zae n g=false):=fun hh=>HNO.out (by
                      unfold abOk
                      rw[Bool.and_eq_false_iff,Bool.and_eq_false_iff]
                      refine Or.inl (Or.inr (decide_eq_false_iff_not.2 fun hk=>?_))
                      rw[hk c hltc] at hh
                      exact Bool.noConfusion hh)
                    cases v2:g.B b c
                    all_goals cases v3:g.B a c
                    all_goals
                      rw[v2] at fbc
                      rw[v3] at fac
                      go_wp2
                      first
                        | (go_roundw
                           case rel => exact ⟨c + 1, by omega, by go_num, HN.out (by rw [hab, v2, v3]; rfl), hB3⟩
                           case measure => simp [intOf]; omega)
                        | (go_ret
                           exact ⟨zab (HQ.out (by rw [hab, v2, v3]; rfl)).symm, hB3.bl⟩)
                  · clear q3
                    go_wp2_with fail
                    refine (HJ.out _ hB3 a b hlt hltb).mono ?_
                    rintro e w4 ⟨rfl,hb4⟩
                    have B4:=hB3.step hb4
                    clear hb4 c0 c1
                    have c0:=B4.c0
                    have c1:=B4.c1
                    by_cases hj:findI (abvB n g a b) n.len 0=-1
                    · have HF:Hid (zae n g=false):=HNO.out (by unfold abOk;rw[hj];simp)
                      have dj:decide (findI (abvB n g a b) n.len 0<0)=true:=by rw[hj];decide
                      clear hj
                      generalize findI (abvB n g a b) n.len 0=fj at *
                      go_wp2
                      all_goals (go_ret;exact⟨zab HF.out.symm,B4.bl⟩)
                    · have pj:=zdp _ _ hj
                      have HJ1:Hid (findI (abvB n g a b) n.len 0≠-1):=hj
                      clear hj
                      have dj:decide (findI (abvB n g a b) n.len 0<0)=false:=by rw[decide_eq_false_iff_not];omega
                      generalize hfj:findI (abvB n g a b) n.len 0=fj at pj dj ⊢
                      have HFJ:Hid (findI (abvB n g a b) n.len 0=fj):=hfj
                      clear hfj
                      go_wp2_with fail
                      refine (HM.out _ B4 a b hlt hltb).mono ?_
                      rintro e w5 ⟨rfl,hb5⟩
                      have B5:=B4.step hb5
                      clear hb5 c0 c1
                      by_cases hm:findI (blwB n g a b) n.len 0=-1
                      · have HF:Hid (zae n g=false):=HNO.out (by unfold abOk;rw[hm];simp)
                        have dm:decide (findI (blwB n g a b) n.len 0<0)=true:=by rw[hm];decide
                        clear hm
                        generalize findI (blwB n g a b) n.len 0=fm at *
                        go_wp2
                        all_goals (go_ret;exact⟨zab HF.out.symm,B5.bl⟩)
                      · have pm:=zdp _ _ hm
                        have HOK:Hid (abOk n g a b=true):=by
                          show abOk n g a b=true
                          unfold abOk
                          rw[T1.out,decide_eq_true (fun z hz=>HD3.out z (by omega)),bne_iff_ne.2 HJ1.out,bne_iff_ne.2 hm];rfl
                        have dm:decide (findI (blwB n g a b) n.len 0<0)=false:=by rw[decide_eq_false_iff_not];omega
                        clear hm
                        generalize findI (blwB n g a b) n.len 0=fm at *
                        go_wp2
                        go_roundw
                        case rel =>
                          refine⟨b+1,by omega,by go_num,fun y hy=>?_,B5⟩
                          rcases Nat.lt_succ_iff_lt_or_eq.1 hy with h | h
                          · exact HD2.out y h
                          · subst h;exact HOK.out
                        case measure=>simp[intOf];omega
              · have e1:((a:Int)==b)=false:=by rw[beq_eq_false_iff_ne];omega
                have e2:((a:Int) != b)=true:=by rw[bne_iff_ne];omega
                rw[hab] at fab
                rw[hba] at fba
                clear e
                go_wp2
                clear e1 e2
                clear c0 c1 ra rb fab fba
                go_loopw [6] (fun i wr=>∃c:Nat,c≤n.len∧i=.int .i64 c∧(∀z,z<c→(g.B a b&&g.B b z&&!g.B a z)=false)∧Box2 w wr (.slice n.ao n.len n.cap) (.slice (some ⟨g.gb,g.go,none⟩) n.len g.cap)) (fun i _=>n.len - (intOf i).toNat)
                case atStart=>exact⟨0,Nat.zero_le _,rfl,fun _ h=>absurd h (Nat.not_lt_zero _),hB2⟩
                case round =>
                  obtain⟨c,hc,rfl,hdone3,hB3⟩:=hrel
                  clear hB2
                  have HD3:Hid (∀z,z<c→(g.B a b&&g.B b z&&!g.B a z)=false):=hdone3
                  clear hdone3
                  have q3:=hq.kept hB3.bl
                  have c0:=hB3.c0
                  have c1:=hB3.c1
                  by_cases hltc:c<n.len
                  · have ra:=q3.row hlt
                    have rb:=q3.row hltb
                    have fab:=q3.cell hlt hltb
                    have fbc:=q3.cell hltb hltc
                    have fac:=q3.cell hlt hltc
                    have ic:(c:Int)<n.len:=by omega
                    rw[hab] at fab
                    clear q3
                    have HN:Hid ((g.B a b&&g.B b c&&!g.B a c)=false→∀z,z<c+1→(g.B a b&&g.B b z&&!g.B a z)=false):=fun hh z hz=>by
                      rcases Nat.lt_succ_iff_lt_or_eq.1 hz with h | h
                      · exact HD3.out z h
                      · subst h;exact hh
                    have HQ:Hid ((g.B a b&&g.B b c&&!g.B a c)=true→zae n g=false):=fun hh=>HNO.out (by
                      unfold abOk
                      rw[Bool.and_eq_false_iff,Bool.and_eq_false_iff]
                      refine Or.inl (Or.inr (decide_eq_false_iff_not.2 fun hk=>?_))
                      rw[hk c hltc] at hh
                      exact Bool.noConfusion hh)
                    cases v2:g.B b c
                    all_goals cases v3:g.B a c
                    all_goals
                      rw[v2] at fbc
                      rw[v3] at fac
                      go_wp2
                      first
                        | (go_roundw
                           case rel => exact ⟨c + 1, by omega, by go_num, HN.out (by rw [hab, v2, v3]; rfl), hB3⟩
                           case measure => simp [intOf]; omega)
                        | (go_ret
                           exact ⟨zab (HQ.out (by rw [hab, v2, v3]; rfl)).symm, hB3.bl⟩)
                  · clear q3
                    go_wp2_with fail
                    refine (HJ.out _ hB3 a b hlt hltb).mono ?_
                    rintro e w4 ⟨rfl,hb4⟩
                    have B4:=hB3.step hb4
                    clear hb4 c0 c1
                    have c0:=B4.c0
                    have c1:=B4.c1
                    by_cases hj:findI (abvB n g a b) n.len 0=-1
                    · have HF:Hid (zae n g=false):=HNO.out (by unfold abOk;rw[hj];simp)
                      have dj:decide (findI (abvB n g a b) n.len 0<0)=true:=by rw[hj];decide
                      clear hj
                      generalize findI (abvB n g a b) n.len 0=fj at *
                      go_wp2
                      all_goals (go_ret;exact⟨zab HF.out.symm,B4.bl⟩)
                    · have pj:=zdp _ _ hj
                      have HJ1:Hid (findI (abvB n g a b) n.len 0≠-1):=hj
                      clear hj
                      have dj:decide (findI (abvB n g a b) n.len 0<0)=false:=by rw[decide_eq_false_iff_not];omega
                      generalize hfj:findI (abvB n g a b) n.len 0=fj at pj dj ⊢
                      have HFJ:Hid (findI (abvB n g a b) n.len 0=fj):=hfj
                      clear hfj
                      go_wp2_with fail
                      refine (HM.out _ B4 a b hlt hltb).mono ?_
                      rintro e w5 ⟨rfl,hb5⟩
                      have B5:=B4.step hb5
                      clear hb5 c0 c1
                      by_cases hm:findI (blwB n g a b) n.len 0=-1
                      · have HF:Hid (zae n g=false):=HNO.out (by unfold abOk;rw[hm];simp)
                        have dm:decide (findI (blwB n g a b) n.len 0<0)=true:=by rw[hm];decide
                        clear hm
                        generalize findI (blwB n g a b) n.len 0=fm at *
                        go_wp2
                        all_goals (go_ret;exact⟨zab HF.out.symm,B5.bl⟩)
                      · have pm:=zdp _ _ hm
                        have HOK:Hid (abOk n g a b=true):=by
                          show abOk n g a b=true
                          unfold abOk
                          rw[T1.out,decide_eq_true (fun z hz=>HD3.out z (by omega)),bne_iff_ne.2 HJ1.out,bne_iff_ne.2 hm];rfl
                        have dm:decide (findI (blwB n g a b) n.len 0<0)=false:=by rw[decide_eq_false_iff_not];omega
                        clear hm
                        generalize findI (blwB n g a b) n.len 0=fm at *
                        go_wp2
                        go_roundw
                        case rel =>
                          refine⟨b+1,by omega,by go_num,fun y hy=>?_,B5⟩
                          rcases Nat.lt_succ_iff_lt_or_eq.1 hy with h | h
                          · exact HD2.out y h
                          · subst h;exact HOK.out
                        case measure=>simp[intOf];omega
            · have HN:Hid (zae n g=false):=HNO.out (by unfold abOk;rw[Bool.not_eq_true] at t1;rw[t1];rfl)
              by_cases e:a=b
              · rw[if_pos e,Bool.not_eq_true] at t1
                have e1:((a:Int)==b)=true:=by rw[beq_iff_eq];omega
                rw[t1] at fab
                clear e t1
                go_wp2
                go_ret
                exact⟨zab HN.out.symm,hB2.bl⟩
              · rw[if_neg e,Bool.not_eq_true,Bool.not_eq_false',Bool.and_eq_true] at t1
                have e1:((a:Int)==b)=false:=by rw[beq_eq_false_iff_ne];omega
                have e2:((a:Int) != b)=true:=by rw[bne_iff_ne];omega
                rw[t1.1] at fab
                rw[t1.2] at fba
                clear e t1
                go_wp2
                go_ret
                exact⟨zab HN.out.symm,hB2.bl⟩
          · go_wp2
            go_roundw
            case rel =>
              refine⟨a+1,by omega,by go_num,fun x hx y hy=>?_,hB2⟩
              rcases Nat.lt_succ_iff_lt_or_eq.1 hx with h | h
              · exact HD.out x h y hy
              · subst h;exact HD2.out y (by omega)
            case measure=>simp[intOf];omega
      · have HY:Hid (zae n g=true):=by
          show zae n g=true
          rw[←zj0]
          unfold zgs
          rw[HS.out,decide_eq_true (fun x hx y hy=>HD.out x (by omega) y hy)];rfl
        go_wp2
        go_ret
        exact⟨zab HY.out.symm,hB.bl⟩
  · have HN:Hid (zae n g=false):=by
      show zae n g=false
      unfold zae
      rw[Bool.not_eq_true] at hS
      rw[hS];rfl
    have B0:=Box2.start w (.slice n.ao n.len n.cap) (.slice g.ao g.len g.cap) 25
    have hsh:=zj9 n g _ (hn.kept B0.bl) (hg.kept B0.bl)
    rw[Bool.not_eq_true] at hS
    rw[hS] at hsh
    have H0:Hid (Calls Tryz.prog 94 #[.agg #[.slice n.ao n.len n.cap,.slice g.ao g.len g.cap]] (w.alloc (.cells #[.slice n.ao n.len n.cap,.slice g.ao g.len g.cap] 25)) fun e w'=>e=.returned (.bool false)∧Below (w.alloc (.cells #[.slice n.ao n.len n.cap,.slice g.ao g.len g.cap] 25)).heap.size (w.alloc (.cells #[.slice n.ao n.len n.cap,.slice g.ao g.len g.cap] 25)) w'):=hsh
    clear hsh hS
    go_enter Tryz.func56,Tryz.ntmps56
    go_wp2_with fail
    refine H0.out.mono ?_
    rintro e w1 ⟨rfl,hb1⟩
    have B1:=B0.step hb1
    go_wp2
    go_ret
    exact⟨zab HN.out.symm,B1.bl⟩
theorem zr8 (n:Strs)(g:Grid)(a:Int)(w:World) :
  Calls Tryz.prog 20 #[.agg #[.slice n.ao n.len n.cap,.slice g.ao g.len g.cap],.int .i64 a] w fun e w'=>e=.returned (.bool (labB n a))∧Below w.heap.size w w':=by
 have B0:=Box2.start w (.slice n.ao n.len n.cap) (.slice g.ao g.len g.cap) 25;by_cases h:0≤a
 ·have HE:Hid (labB n a=decide (a<n.len)):=by show labB n a=_;unfold labB;rw[decide_eq_true h];rfl
  go_enter Tryz.func20,Tryz.ntmps20
  go_wp2;go_ret;exact⟨zab HE.out.symm,B0.bl⟩
 ·have HE:Hid (labB n a=false):=by show labB n a=_;unfold labB;rw[decide_eq_false h];rfl
  go_enter Tryz.func20,Tryz.ntmps20
  go_wp2;go_ret;exact⟨zab HE.out.symm,B0.bl⟩
end
end Go.Proofs.YtfobijdkoeifjaaGreatDoor
