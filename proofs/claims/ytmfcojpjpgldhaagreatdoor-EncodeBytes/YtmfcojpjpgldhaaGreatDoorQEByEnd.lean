/- For every module whatever: the law EncodeBytes answers true: the bytes that the program writes of it, or why it writes none, are the document's. Condition: the two tables of unicode/utf8 lie as the program text lays them. -/
import Derived.Test.YtmfcojpjpgldhaaGreatDoorQEBy47
import Derived.Test.YtmfcojpjpgldhaaGreatDoorQEBy1
import Derived.Test.YtmfcojpjpgldhaaGreatDoorCards
import Derived.Test.YtmfcojpjpgldhaaGreatDoorTie
import Derived.ProofKit
import Derived.OpenShut
import Derived.Carry
import Derived.Deep.DeepHandedRow
import Derived.Deep.DeepWitnessRowRef
namespace Go.Proofs.YtmfcojpjpgldhaaGreatDoor.encodeBytes
open Go.ChangeShapes Go.WideShapes Go.ChangeAt Go.RowKit aA Go.Proofs.Tryz
set_option linter.unusedVariables false
set_option maxRecDepth 100000
theorem laidOut:laidOutB prog=true:=by kernel_rfl
theorem ten {cs:Array Value} (h:cs.size=10):∃v0 v1 v2 v3 v4 v5 v6 v7 v8 v9,cs=#[v0,v1,v2,v3,v4,v5,v6,v7,v8,v9]:=by
 obtain ⟨l⟩:=cs
 match l,h with
 | [v0,v1,v2,v3,v4,v5,v6,v7,v8,v9],_=>exact ⟨v0,v1,v2,v3,v4,v5,v6,v7,v8,v9,rfl⟩
theorem tabs {W:World} (hL:laidMetH prog Rows.encodeBytesRow.laid W):ym W:=by unfold Rows.encodeBytesRow at hL;exact S5 hL
theorem contract (H:Type) (enc:TypeId × Value->H) (W:World) (base:Nat) (args:Array Value) (ds gs:List (DataW H)) (before:List MemPlace)
  (hval:∀(j:Nat) t v,Tryz.f3.params[j]?=some t->args[j]?=some v->Value.okWide prog W .any base t v)
  (hW:DataW.Whole enc prog Tryz.f3.params.toList Rows.encodeBytesSpec.vars false W args.toList ds gs before) (hL:laidMetH prog Rows.encodeBytesRow.laid W) :
  Calls prog 3 args W λe W'=>∃v,e=.returned v/\Rows.encodeBytesSpec.post enc prog Tryz.f3 false true false false W args v W':=by
 have hW':=hW;obtain ⟨p,q,yp,hV,rfl,hfz,hnd⟩:=hW;have hA:DataW.TrodAll enc prog W 0 (λ_=>true) true Tryz.f3.params.toList args.toList ds p:=yp;rw [params3] at hA hval;obtain ⟨a0,vs0,d0,ds0,p0,q0,hargs,rfl,rfl,h0,r0⟩:=trodAll_cons hA;obtain ⟨rfl,rfl,rfl⟩:=trodAll_nil r0;obtain rfl:args=#[a0]:=by cases args;simp_all
 obtain ⟨rfl,rfl⟩:=trodVars_none hV;have h0k:=h0;have S9:∀x ∈ p0,x.block<W.heap.size:=λx hx=>by have:=hW'.lt x (by simp [hx]);simpa using this
 obtain ⟨cs0,rfl,Ta⟩:=okWide_struct underlying32 (hval 0 32 a0 rfl rfl);obtain ⟨v0,v1,v2,v3,v4,v5,v6,v7,v8,v9,rfl⟩:=ten (Ta.trans Tc);obtain ⟨Kv,Td⟩:=h0;obtain ⟨m,hM,hN,hsz,hi,he,hc3,xp⟩:=Te (d:=Kv) (aI _) Td;clear yp;refine (Tf Tg Kv _ _ _ _ _ _ _ _ _ _ m W (tabs hL) hM hN hsz ⟨hi,he⟩).mono λe W' ⟨he1,aL⟩=>?_;subst he1;exact ⟨_,rfl,_,_,_,[],_,[],hW',trodAll_mk1 (shut_bool underlying4 _),(trodAll_cons_mk (Below.trod laidOut (by kernel_rfl) (of_decide_eq_true (by kernel_rfl)) h0k aL S9) trodAll_mk0),rfl,aL.frame _,λh=>by cases h⟩
theorem reads (os:Os) {H:Type} (enc:TypeId × Value->H):∃places,DataW.whole enc prog ((Gl os).forCall (λ_ _=>0) ⟨#[],#[.agg #[.slice none 0 0,.slice none 0 0,.slice none 0 0,.slice none 0 0,.slice none 0 0,.slice none 0 0,.slice none 0 0,.slice none 0 0,.slice none 0 0,.slice none 0 0]],[]⟩).memory Tryz.f3.params.toList Rows.encodeBytesSpec.vars false (#[.agg #[.slice none 0 0,.slice none 0 0,.slice none 0 0,.slice none 0 0,.slice none 0 0,.slice none 0 0,.slice none 0 0,.slice none 0 0,.slice none 0 0,.slice none 0 0]]:Array Value).toList 8=some ([.agg [.nil,.nil,.nil,.nil,.nil,.nil,.nil,.nil,.nil,.nil]],[],places) :=
 ⟨[],by kernel_rfl⟩
theorem lifted (os:Os) (started:os.Started) (H:Type) (enc:TypeId × Value->H) (F:Stop.Interp) :
  ReturnsInHanded {} Tryz.checked os 3 .any ((OpenSpec.ofChange Rows.encodeBytesSpec).preRow enc prog Tryz.f3 Rows.encodeBytesRow.domain false Rows.encodeBytesRow.laid) (((OpenSpec.ofChange Rows.encodeBytesSpec).at F).post enc prog Tryz.f3 false true false false):=by
 obtain ⟨places,hx⟩:=reads os enc
 refine returnsInHanded_of_row (C:=Tryz.checked) (s:=OpenSpec.ofChange Rows.encodeBytesSpec) own started (by kernel_rfl) func3
  (witness_row_atRef (enc:=enc) (C:=Tryz.checked) false (Gl os) #[.agg #[.slice none 0 0,.slice none 0 0,.slice none 0 0,.slice none 0 0,.slice none 0 0,.slice none 0 0,.slice none 0 0,.slice none 0 0,.slice none 0 0,.slice none 0 0]] rfl (by kernel_rfl) (by kernel_rfl) (by kernel_rfl)
   (OpenSpec.preRow_of_cond 8 hx (by kernel_rfl) (λk hk=>by cases hk) (by kernel_rfl) (Ti os _))) ?_
 intro W base args ds gs before hval hW _ _ _ hL _ _;exact contract H enc W base args ds gs before hval hW hL
theorem said:Rows.EncodeBytesSaid :=
 OpenClaim.holds_of_cond 3 Tryz.f3 rfl rfl rfl rfl rfl rfl rfl ⟨rfl,rfl,rfl,rfl,rfl⟩ rfl rfl rfl rfl rfl (by kernel_rfl) func3 (by kernel_rfl)
  (of_decide_eq_true (by kernel_rfl)) (by unfold Func.isWrapper;first|(rw [if_pos (by decide +kernel)];kernel_rfl)|(rw [if_neg (by decide +kernel)];exact ⟨rfl,rfl⟩))
  (λos started H enc _ F=>by rw [OpenClaim.pre_eq_preRow];exact lifted os started H enc F)
theorem plain (f : FuncId) (fn : Func) (hf : Tryz.pinned.checked.prog.funcNamed "athanor/athanorlaw04.EncodeBytes" = some f) (hfn : Tryz.pinned.checked.prog.funcs[f]? = some fn) :
  true=Tryz.pinned.checked.prog.looks []/\∀(j:Nat) t,fn.params[j]?=some t->Tryz.pinned.checked.prog.wantsStandIn t=false:=by
 obtain rfl : f = 3 := Option.some.inj ((show Tryz.prog.funcNamed "athanor/athanorlaw04.EncodeBytes" = some 3 by kernel_rfl).symm.trans hf) |>.symm
 obtain rfl:fn=Tryz.f3:=(Option.some.inj (func3.symm.trans hfn)).symm;refine ⟨by kernel_rfl,λj t ht=>?_⟩;rw [params3] at ht;have hm:=Array.mem_of_getElem? ht;have hc:t=32:=by simp at hm;first|exact hm|exact hm.symm|omega
 rcases hc with rfl;exact (show prog.wantsStandIn 32=false by kernel_rfl)
theorem card:Rows.EncodeBytesCardSaid :=
 Claim7.holds_tied_plain_at .later [] _ _ _ _ said (λ_ h=>by cases h) (by kernel_rfl) (λ_ h=>by cases h) encodeBytes_row_tie rfl ⟨rfl,rfl⟩ (by kernel_rfl) rfl plain (by kernel_rfl)
end Go.Proofs.YtmfcojpjpgldhaaGreatDoor.encodeBytes
namespace Go.Proofs.YtmfcojpjpgldhaaGreatDoor
theorem encodeBytes_holds:Rows.EncodeBytesCardSaid:=encodeBytes.card
#print axioms encodeBytes_holds
end Go.Proofs.YtmfcojpjpgldhaaGreatDoor

