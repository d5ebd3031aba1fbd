/- The claim. -/
import Derived.Test.YtcfifbgemfladaaGreatDoorQDPa46
import Derived.Test.YtcfifbgemfladaaGreatDoorQDPa27
import Derived.Test.YtcfifbgemfladaaGreatDoorQDPa2
import Derived.Test.YtcfifbgemfladaaGreatDoorCards
import Derived.Test.YtcfifbgemfladaaGreatDoorTie
import Derived.ProofKit
import Derived.OpenShut
import Derived.Carry
import Derived.Deep.DeepHandedRow
import Derived.Deep.DeepWitnessRowRef
namespace Go.Proofs.YtcfifbgemfladaaGreatDoor.decodePadded
open Go.ChangeShapes Go.WideShapes Go.ChangeAt Go.RowKit au Go.Proofs.Tryz
set_option linter.unusedVariables false
set_option maxRecDepth 100000
theorem laidOut:laidOutB prog=true:=by kernel_rfl
theorem ten {cs:Array Value} (h:cs.size=10):∃v0 v1 v2 v3 v4 v5 v6 v7 v8 v9,cs=#[v0,v1,v2,v3,v4,v5,v6,v7,v8,v9]:=by
 obtain ⟨l⟩:=cs
 match l,h with
 | [v0,v1,v2,v3,v4,v5,v6,v7,v8,v9],_=>exact ⟨v0,v1,v2,v3,v4,v5,v6,v7,v8,v9,rfl⟩
theorem tabs {W:AG} (hL:laidMetH prog Rows.decodePaddedRow.laid W):mI W:=by unfold Rows.decodePaddedRow at hL;exact abL hL
theorem contract (H:Type) (enc:TypeId × Value->H) (W:AG) (base:Nat) (args:Array Value) (ds gs:List (DataW H)) (before:List MemPlace)
  (hval:∀(j:Nat) t v,Tryz.f4.params[j]?=some t->args[j]?=some v->Value.okWide prog W .any base t v)
  (hW:DataW.Whole enc prog Tryz.f4.params.toList Rows.decodePaddedSpec.vars false W args.toList ds gs before) (hL:laidMetH prog Rows.decodePaddedRow.laid W) :
  Calls prog 4 args W λe W'=>∃v,e=.returned v/\Rows.decodePaddedSpec.post enc prog Tryz.f4 false true false false W args v W':=by
 have hW':=hW;obtain ⟨p,q,Ea,hV,rfl,hfz,hnd⟩:=hW;have hA:DataW.TrodAll enc prog W 0 (λ_=>true) true Tryz.f4.params.toList args.toList ds p:=Ea;rw [params4] at hA hval;obtain ⟨a0,vs0,d0,ds0,p0,q0,hargs,rfl,rfl,h0,r0⟩:=trodAll_cons hA;obtain ⟨rfl,rfl,rfl⟩:=trodAll_nil r0;obtain rfl:args=#[a0]:=by cases args;simp_all
 obtain ⟨rfl,rfl⟩:=trodVars_none hV;have h0k:=h0;have abM:∀x ∈ p0,x.block<W.heap.size:=λx hx=>by have:=hW'.lt x (by simp [hx]);simpa using this
 obtain ⟨cs0,rfl,abN⟩:=okWide_struct underlying32 (hval 0 32 a0 rfl rfl);obtain ⟨v0,v1,v2,v3,v4,v5,v6,v7,v8,v9,rfl⟩:=ten (abN.trans abO);obtain ⟨Qh,hf0⟩:=h0;obtain ⟨m,hM,hN,hsz,hi,he,hc3,hc4⟩:=aa1 (d:=Qh) (aC _) hf0;clear Ea;refine (XQ Qh _ _ _ _ _ _ _ _ _ _ m W (tabs hL) hM hN hsz ⟨hi,he⟩).mono λe W' ⟨he1,bQ⟩=>?_;subst he1;exact ⟨_,rfl,_,_,_,[],_,[],hW',trodAll_mk1 (shut_bool underlying4 _),(trodAll_cons_mk (Below.trod laidOut (by kernel_rfl) (of_decide_eq_true (by kernel_rfl)) h0k bQ abM) trodAll_mk0),rfl,bQ.frame _,λh=>by cases h⟩
theorem reads (os:Os) {H:Type} (enc:TypeId × Value->H):∃places,DataW.whole enc prog ((KH os).forCall (λ_ _=>0) ⟨#[],#[.agg #[.slice none 0 0,.slice none 0 0,.slice none 0 0,.slice none 0 0,.slice none 0 0,.slice none 0 0,.slice none 0 0,.slice none 0 0,.slice none 0 0,.slice none 0 0]],[]⟩).memory Tryz.f4.params.toList Rows.decodePaddedSpec.vars false (#[.agg #[.slice none 0 0,.slice none 0 0,.slice none 0 0,.slice none 0 0,.slice none 0 0,.slice none 0 0,.slice none 0 0,.slice none 0 0,.slice none 0 0,.slice none 0 0]]:Array Value).toList 8=some ([.agg [.nil,.nil,.nil,.nil,.nil,.nil,.nil,.nil,.nil,.nil]],[],places) :=
 ⟨[],by kernel_rfl⟩
theorem lifted (os:Os) (started:os.Started) (H:Type) (enc:TypeId × Value->H) (F:Stop.Interp) :
  ReturnsInHanded {} Tryz.checked os 4 .any ((OpenSpec.ofChange Rows.decodePaddedSpec).preRow enc prog Tryz.f4 Rows.decodePaddedRow.domain false Rows.decodePaddedRow.laid) (((OpenSpec.ofChange Rows.decodePaddedSpec).at F).post enc prog Tryz.f4 false true false false):=by
 obtain ⟨places,hx⟩:=reads os enc
 refine returnsInHanded_of_row (C:=Tryz.checked) (s:=OpenSpec.ofChange Rows.decodePaddedSpec) own started (by kernel_rfl) func4
  (witness_row_atRef (enc:=enc) (C:=Tryz.checked) false (KH os) #[.agg #[.slice none 0 0,.slice none 0 0,.slice none 0 0,.slice none 0 0,.slice none 0 0,.slice none 0 0,.slice none 0 0,.slice none 0 0,.slice none 0 0,.slice none 0 0]] rfl (by kernel_rfl) (by kernel_rfl) (by kernel_rfl)
   (OpenSpec.preRow_of_cond 8 hx (by kernel_rfl) (λk hk=>by cases hk) (by kernel_rfl) (abP os _))) ?_
 intro W base args ds gs before hval hW _ _ _ hL _ _;exact contract H enc W base args ds gs before hval hW hL
theorem said:Rows.DecodePaddedSaid :=
 OpenClaim.holds_of_cond 4 Tryz.f4 rfl rfl rfl rfl rfl rfl rfl ⟨rfl,rfl,rfl,rfl,rfl⟩ rfl rfl rfl rfl rfl (by kernel_rfl) func4 (by kernel_rfl)
  (of_decide_eq_true (by kernel_rfl)) (by unfold Func.isWrapper;first|(rw [AE (by decide +kernel)];kernel_rfl)|(rw [AD (by decide +kernel)];exact ⟨rfl,rfl⟩))
  (λos started H enc _ F=>by rw [OpenClaim.pre_eq_preRow];exact lifted os started H enc F)
theorem plain (f : FuncId) (fn : Func) (hf : Tryz.pinned.checked.prog.funcNamed "athanor/athanorlaw05.DecodePadded" = some f) (hfn : Tryz.pinned.checked.prog.funcs[f]? = some fn) :
  true=Tryz.pinned.checked.prog.looks []/\∀(j:Nat) t,fn.params[j]?=some t->Tryz.pinned.checked.prog.wantsStandIn t=false:=by
 obtain rfl : f = 4 := Option.some.inj ((show Tryz.prog.funcNamed "athanor/athanorlaw05.DecodePadded" = some 4 by kernel_rfl).symm.trans hf) |>.symm
 obtain rfl:fn=Tryz.f4:=(Option.some.inj (func4.symm.trans hfn)).symm;refine ⟨by kernel_rfl,λj t ht=>?_⟩;rw [params4] at ht;have hm:=Array.mem_of_getElem? ht;have hc:t=32:=by simp at hm;first|exact hm|exact hm.symm|omega
 rcases hc with rfl;exact (show prog.wantsStandIn 32=false by kernel_rfl)
theorem card:Rows.DecodePaddedCardSaid :=
 Claim7.holds_tied_plain_at .later [] _ _ _ _ said (λ_ h=>by cases h) (by kernel_rfl) (λ_ h=>by cases h) decodePadded_row_tie rfl ⟨rfl,rfl⟩ (by kernel_rfl) rfl plain (by kernel_rfl)
end Go.Proofs.YtcfifbgemfladaaGreatDoor.decodePadded
namespace Go.Proofs.YtcfifbgemfladaaGreatDoor
theorem decodePadded_holds:Rows.DecodePaddedCardSaid:=decodePadded.card
#print axioms decodePadded_holds
end Go.Proofs.YtcfifbgemfladaaGreatDoor

