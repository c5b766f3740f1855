/- Proved: over every lattice of a size that is looked at and all labels: code that loads a number and tells it, then loads and returns it, is accepted just if the labels rise, and is else refused at the place that tells or at the one that returns: the statement VerifyTells returns true at every input and leaves its arguments as they were. Conditions: none beyond the row's own (the listed package-level variables are as the program's text lays them). -/
import Derived.Test.YtfobijdkoeifjaaGreatDoorP41
import Derived.Test.YtfobijdkoeifjaaGreatDoorP24
import Derived.Test.YtfobijdkoeifjaaGreatDoorP2
import Derived.Test.YtfobijdkoeifjaaGreatDoorTie
import Derived.Test.YtfobijdkoeifjaaGreatDoorCards
import Derived.SevenTiedAt
import Derived.ChangeOld
import Derived.ProofKit
import Derived.Below
set_option maxRecDepth 100000
set_option maxHeartbeats 32000000
namespace Go.Proofs.YtfobijdkoeifjaaGreatDoor
section
open Go.ChangeShapes Go.WideShapes Go.ChangeAt Go.RowKit
theorem Tryz.ownF:ownKnob Tryz.prog.godebug=none:=by kernel_rfl
theorem Tryz.laidOutF:laidOutB Tryz.prog=true:=by kernel_rfl
theorem zsr (os:Os)(args:Array Value):laidMetH Tryz.prog Rows.verifyTellsRow.laid ((World.doorLaid Tryz.prog 400 os).forCall (fun _ _=>0) ⟨#[],args,[]⟩).memory :=
 laidMetH_of_parts3 (fuel:=40) (laidMet_of_run' 40 (by kernel_rfl) (by kernel_rfl)) (by kernel_rfl) (by kernel_rfl)
theorem verifyTells_lifted (os:Os)(started:os.Started)(H:Type)(enc:TypeId × Value→H) :
  ReturnsInHanded {} Tryz.checked os 7 .any (fun w args=>(Rows.verifyTellsSpec.pre enc Tryz.prog Tryz.f7 [] false w args∧laidMetH Tryz.prog Rows.verifyTellsRow.laid w)∧sizedMet enc Tryz.prog Tryz.f7 (OpenSpec.ofChange Rows.verifyTellsSpec) false w args)
   (Rows.verifyTellsSpec.post enc Tryz.prog Tryz.f7 false true false false):=by
 refine returnsInHanded_of_change_and (C:=Tryz.checked) (X:=fun w _=>laidMetH Tryz.prog Rows.verifyTellsRow.laid w) (fun _ _ _ hh h=>h.of_heap hh) Tryz.ownF started (by kernel_rfl) Tryz.func7
  (ChangeSpec.witness_shaped (enc:=enc) (C:=Tryz.checked) (os:=os) (X:=fun w _=>laidMetH Tryz.prog Rows.verifyTellsRow.laid w) false (World.doorLaid Tryz.prog 400 os) #[.agg #[.slice none 0 0,.slice none 0 0],.agg #[.int .i64 0,.int .i64 0,.int .i64 0,.int .i64 0]] 8 rfl (World.shaped_of_RefB (by kernel_rfl) (by kernel_rfl)) (by kernel_rfl) (by kernel_rfl) (by kernel_rfl) (zsr os _)) ?_
 intro W base args ds gs before hval0 hW _ _ hL _;have hval:∀(j:Nat) t v,Tryz.f7.params[j]?=some t→args[j]?=some v→Value.okWide Tryz.prog W .any base t v:=hval0;have hW':=hW;obtain⟨p,q,hA0,hV,rfl,_,_⟩:=hW;have hA:DataW.TrodAll enc Tryz.prog W 0 (fun _=>true) true Tryz.f7.params.toList args.toList ds p:=hA0;rw[Tryz.params7] at hA hval;obtain⟨v0,v1,d0,d1,p0,p1,rfl,rfl,rfl,h0,h1⟩:=trodAll_two hA;obtain⟨rfl,rfl⟩:=trodVars_none hV;have k0:=h0;have lt0:∀x ∈ p0,x.block<W.heap.size:=by obtain⟨m,hm⟩:=k0;exact DataW.trod_lt m _ _ _ hm
 obtain⟨n,g,rfl,hn,hg⟩:=zu4 (hval 0 25 v0 rfl rfl) h0;have k1:=h1;have lt1:∀x ∈ p1,x.block<W.heap.size:=by obtain⟨m,hm⟩:=k1;exact DataW.trod_lt m _ _ _ hm
 obtain⟨x0,x1,x2,x3,rfl⟩:=zr7 (hval 1 56 v1 rfl rfl) h1;rw[MakeChecks.laidMetH_plain _ _ _ (by kernel_rfl)] at hL;have hO:Og W:=zqg hL;have hT:Pg2 W:=zpt hL;clear hA0 hval0;refine (zkc n g x0 x1 x2 x3 W hn hg hO hT).mono fun e W' ⟨he,bel⟩=>?_;subst he;exact⟨_,rfl,_,_,_,[],_,[],hW',trodAll_mk1 (shut_bool Tryz.underlying4 _),trodAll_mk2 (Below.trod Tryz.laidOutF (by kernel_rfl) (of_decide_eq_true (by kernel_rfl)) k0 bel lt0) (Below.trod Tryz.laidOutF (by kernel_rfl) (of_decide_eq_true (by kernel_rfl)) k1 bel lt1),rfl,bel.frame _,fun h=>by cases h⟩
theorem verifyTells_said:Rows.VerifyTellsSaid :=
 OpenClaim.holds_of_wide 7 Tryz.f7 rfl rfl rfl rfl rfl rfl rfl ⟨rfl,rfl,rfl,rfl,rfl⟩ rfl rfl rfl rfl rfl (by kernel_rfl) Tryz.func7 (by kernel_rfl)
  (of_decide_eq_true (by kernel_rfl)) (by unfold Func.isWrapper;first | (rw[if_pos (by decide +kernel)];kernel_rfl) | (rw[if_neg (by decide +kernel)];exact⟨rfl,rfl⟩))
  (fun os started H enc _=>verifyTells_lifted os started H enc)
theorem verifyTells_holds:Rows.VerifyTellsCardSaid :=
 Claim7.holds_tied_plain_at .later [] [.data, .data, .data] true (true, "213769c29250ae34d8a8e78064170c267ee0a82d52efaadaf9ef7ecfa37ffc34") false
  verifyTells_said (fun _ h=>by cases h) (by kernel_rfl) (fun _ h=>by cases h) verifyTells_row_tie rfl ⟨rfl,rfl⟩ (by kernel_rfl) rfl
  (fun f fn hf hfn=>by
   obtain rfl : f = 7 := Option.some.inj ((show Tryz.prog.funcNamed "palisade/palisadelaw17.VerifyTells" = some 7 by kernel_rfl).symm.trans hf) |>.symm;obtain rfl:fn=Tryz.f7:=(Option.some.inj (Tryz.func7.symm.trans hfn)).symm;exact⟨by kernel_rfl,fun j t ht=>by
    rw[Tryz.params7] at ht;have hm:t ∈ [25,56]:=by simpa using Array.mem_of_getElem? ht
    have hall:([25,56].all fun u=>!Tryz.prog.wantsStandIn u)=true:=by kernel_rfl
    exact (show Tryz.prog.wantsStandIn t=false by simpa using List.all_eq_true.1 hall t hm)⟩)
  (by kernel_rfl)
#print axioms verifyTells_holds
end
end Go.Proofs.YtfobijdkoeifjaaGreatDoor
