/- Texts that the claim needs. -/
import Derived.Test.YtkdbgopgjbfhbaaGreatDoorQPW32
import Derived.Lib.LaidTab
import Derived.ProofKit
namespace Go.Proofs.YtkdbgopgjbfhbaaGreatDoor
open Go.RowKit Lx
set_option linter.unusedVariables false
theorem own:ownKnob Tryz.prog.godebug=none:=by kernel_rfl
theorem U7 : Tryz.prog.globalNamed "athanor/lex.keyWords" = some 1 := by kernel_rfl
theorem Va : Tryz.prog.globalNamed "athanor/lex.signs" = some 2 := by kernel_rfl
theorem adF:(Tryz.prog.globals[1]?).map (·.type)=some 134:=by kernel_rfl
theorem adG:(Tryz.prog.globals[2]?).map (·.type)=some 135:=by kernel_rfl
theorem adH:Tryz.prog.cellsOf 134=12:=by kernel_rfl
theorem adI:Tryz.prog.cellsOf 135=14:=by kernel_rfl
theorem Vb:Tryz.prog.cellsOf 9=1:=by kernel_rfl
theorem Vd {H:Type} {enc:TypeId × Value->H} {P:Program} {w:World} {base:Nat} {sp:Nat->Bool} {held:Bool} {fuel:Nat} {t e:TypeId} {n:Nat} {cs:List Value} {zs:List ByteArray} {p:List MemPlace}
  (ht:P.underlying t=some (.array n e)) (he:P.underlying e=some .string) (hce:P.cellsOf e=1) (hct:P.cellsOf t=n)
  (h:DataW.trod enc P w base sp held fuel t cs=some (.agg (zs.map fun z=>.lit (.string z.data.toList)),p)):cs=zs.map fun z=>Value.string z:=by
 cases fuel with
 | zero=>simp [DataW.trod] at h
 | succ fuel =>
  simp only [DataW.trod,ht,hce,hct,Nat.mul_one] at h;split at h
  ·rename_i hl;obtain ⟨xs,hm,hx⟩:=Option.map_eq_some_iff.1 h
   have hxs:xs.map (·.1)=zs.map fun z=>(DataW.lit (.string z.data.toList):DataW H):=by
    have:=congrArg Prod.fst hx
    simpa using this
   have hxl:xs.length=n:=by simpa using Lib.mapM_length hm
   have hzl:zs.length=n:=by
    have:=congrArg List.length hxs
    simp at this;omega
   apply List.ext_getElem?;intro i;by_cases hi:i<n
   ·obtain ⟨b,hb,hf⟩:=Lib.mapM_at hm i i (by simp [hi]);obtain ⟨z,hc,rfl,_⟩:=DataW.trod_string he hf
    have h1:cs[i]?=some (.string z):=by
     have:=congrArg (·[0]?) hc
     simpa [List.getElem?_take,List.getElem?_drop] using this
    have h2:(xs.map (·.1))[i]?=some (DataW.lit (.string z.data.toList):DataW H):=by simp [hb]
    rw [hxs] at h2;simp only [List.getElem?_map,Option.map_eq_some_iff,DataW.lit.injEq,Lit.string.injEq] at h2;obtain ⟨z',hz',h3⟩:=h2;obtain rfl:z'=z:=ByteArray.ext (Array.toList_inj.1 h3);simp [h1,hz']
   ·rw [List.getElem?_eq_none (by omega),List.getElem?_eq_none (by simp;omega)]
  ·cases h
theorem adJ:(Rows.laid_athanor_lex_keyWords:DataW Unit)=.agg (keys.map fun z=>.lit (.string z.data.toList)):=by kernel_rfl
theorem adK:(Rows.laid_athanor_lex_signs:DataW Unit)=.agg (signs.map fun z=>.lit (.string z.data.toList)):=by kernel_rfl
theorem Ve {W:World} {g:Nat} {cs:Array Value} {l:List ByteArray} (h:∀k,W.cell? ⟨g,k,none⟩=cs[k]?) (hc:cs.toList=l.map fun z=>Value.string z):W.rangeAt g 0 (l.map Value.string):=fun j v hv=>by
 rw [Nat.zero_add,h j,<- Array.getElem?_toList,hc];exact hv
theorem adL {W : World} (hL : laidMetH Tryz.prog [("athanor/lex.keyWords", Rows.laid_athanor_lex_keyWords), ("athanor/lex.signs", Rows.laid_athanor_lex_signs)] W) : WL W := by
 rw [adJ,adK] at hL;have hM : laidMet Tryz.prog [("athanor/lex.keyWords", .agg (keys.map fun z => .lit (.string z.data.toList))), ("athanor/lex.signs", .agg (signs.map fun z => .lit (.string z.data.toList)))] W := hL
 obtain ⟨ps,⟨g',t',cs,fuel,p,q,hg',ht',hvar,hd,hrest,_⟩,hend⟩:=hM;obtain rfl:=Option.some.inj (U7.symm.trans hg');obtain rfl:=Option.some.inj (adF.symm.trans ht');have hcs:=Vd Tryz.underlying134 Tryz.underlying9 Vb adH hd;have h0:=Ve (fun k=>World.var?_cell U7 hvar k) hcs;obtain ⟨g2,t2,jI,ae2,p2,q2,hg2,ht2,adM,hd2,_⟩:=hrest;obtain rfl:=Option.some.inj (Va.symm.trans hg2);obtain rfl:=Option.some.inj (adG.symm.trans ht2);have hcs2:=Vd Tryz.underlying135 Tryz.underlying9 Vb adI hd2;exact ⟨h0,Ve (fun k=>World.var?_cell Va adM k) hcs2⟩
noncomputable def MC (os:Os):World :=
 { World.holding Tryz.prog os ⟨#[],#[],[]⟩ with heap:=((World.holding Tryz.prog os ⟨#[],#[],[]⟩).heap.modify 1 fun | .cells _ t frozen=>.cells #[.string ⟨#[116,121,112,101]⟩,.string ⟨#[102,117,110]⟩,.string ⟨#[108,101,116]⟩,.string ⟨#[114,101,99]⟩,.string ⟨#[105,110]⟩,.string ⟨#[99,97,115,101]⟩,.string ⟨#[111,102]⟩,.string ⟨#[101,110,100]⟩,.string ⟨#[105,102]⟩,.string ⟨#[116,104,101,110]⟩,.string ⟨#[101,108,115,101]⟩,.string ⟨#[112,114,105,110,116]⟩] t frozen|o=>o).modify 2 fun | .cells _ t frozen=>.cells #[.string ⟨#[45,62]⟩,.string ⟨#[61,61]⟩,.string ⟨#[124]⟩,.string ⟨#[61]⟩,.string ⟨#[40]⟩,.string ⟨#[41]⟩,.string ⟨#[59]⟩,.string ⟨#[43]⟩,.string ⟨#[45]⟩,.string ⟨#[42]⟩,.string ⟨#[47]⟩,.string ⟨#[37]⟩,.string ⟨#[60]⟩,.string ⟨#[95]⟩] t frozen|o=>o }
end Go.Proofs.YtkdbgopgjbfhbaaGreatDoor
