/- Texts that the claim needs. -/
import Derived.Test.YtkdbgopgjbfhbaaGreatDoorQPV33
import Derived.Lib.LaidTab
import Derived.ProofKit
import Derived.Test.YtkdbgopgjbfhbaaGreatDoorQPV30
import Derived.Test.YtkdbgopgjbfhbaaGreatDoorQPV35
namespace Go.Proofs.YtkdbgopgjbfhbaaGreatDoor
open Go.RowKit Lx
set_option linter.unusedVariables false
theorem own:ownKnob Tryz.prog.godebug=none:=by kernel_rfl
theorem SU : Tryz.prog.globalNamed "athanor/lex.keyWords" = some 1 := by kernel_rfl
theorem SV : Tryz.prog.globalNamed "athanor/lex.signs" = some 2 := by kernel_rfl
theorem acf:(Tryz.prog.globals[1]?).map (·.type)=some 134:=by kernel_rfl
theorem acg:(Tryz.prog.globals[2]?).map (·.type)=some 135:=by kernel_rfl
theorem ach:Tryz.prog.cellsOf 134=12:=by kernel_rfl
theorem aci:Tryz.prog.cellsOf 135=14:=by kernel_rfl
theorem SW:Tryz.prog.cellsOf 9=1:=by kernel_rfl
theorem SX {H:Type} {enc:TypeId × Value->H} {P:Program} {w:World} {base:Nat} {sp:Nat->Bool} {held:Bool} {fuel:Nat} {t e:TypeId} {n:Nat} {cs:List Value} {zs:List ByteArray} {p:List MemPlace}
  (ht:P.underlying t=some (.array n e)) (he:P.underlying e=some .string) (hce:P.cellsOf e=1) (hct:P.cellsOf t=n)
  (h:DataW.trod enc P w base sp held fuel t cs=some (.agg (zs.map fun z=>.lit (.string z.data.toList)),p)):cs=zs.map fun z=>Value.string z:=by
 cases fuel with
 | zero=>simp [DataW.trod] at h
 | succ fuel =>
  simp only [DataW.trod,ht,hce,hct,Nat.mul_one] at h;split at h
  ·rename_i hl;obtain ⟨xs,hm,hx⟩:=Option.map_eq_some_iff.1 h
   have hxs:xs.map (·.1)=zs.map fun z=>(DataW.lit (.string z.data.toList):DataW H):=by
    have:=congrArg Prod.fst hx
    simpa using this
   have hxl:xs.length=n:=by simpa using Lib.mapM_length hm
   have hzl:zs.length=n:=by
    have:=congrArg List.length hxs
    simp at this;omega
   apply List.ext_getElem?;intro i;by_cases hi:i<n
   ·obtain ⟨b,hb,hf⟩:=Lib.mapM_at hm i i (by simp [hi]);obtain ⟨z,hc,rfl,_⟩:=DataW.trod_string he hf
    have h1:cs[i]?=some (.string z):=by
     have:=congrArg (·[0]?) hc
     simpa [List.getElem?_take,List.getElem?_drop] using this
    have h2:(xs.map (·.1))[i]?=some (DataW.lit (.string z.data.toList):DataW H):=by simp [hb]
    rw [hxs] at h2;simp only [List.getElem?_map,Option.map_eq_some_iff,DataW.lit.injEq,Lit.string.injEq] at h2;obtain ⟨z',hz',h3⟩:=h2;obtain rfl:z'=z:=ByteArray.ext (Array.toList_inj.1 h3);simp [h1,hz']
   ·rw [List.getElem?_eq_none (by omega),List.getElem?_eq_none (by simp;omega)]
  ·cases h
theorem acj:(Rows.laid_athanor_lex_keyWords:DataW Unit)=.agg (keys.map fun z=>.lit (.string z.data.toList)):=by kernel_rfl
theorem ack:(Rows.laid_athanor_lex_signs:DataW Unit)=.agg (signs.map fun z=>.lit (.string z.data.toList)):=by kernel_rfl
theorem SY {W:World} {g:Nat} {cs:Array Value} {l:List ByteArray} (h:∀k,W.cell? ⟨g,k,none⟩=cs[k]?) (hc:cs.toList=l.map fun z=>Value.string z):W.rangeAt g 0 (l.map Value.string):=fun j v hv=>by
 rw [Nat.zero_add,h j,<- Array.getElem?_toList,hc];exact hv
theorem Y7 {W : World} (hL : laidMetH Tryz.prog [("athanor/lex.keyWords", Rows.laid_athanor_lex_keyWords), ("athanor/lex.signs", Rows.laid_athanor_lex_signs)] W) : WL W := by
 rw [acj,ack] at hL;have hM : laidMet Tryz.prog [("athanor/lex.keyWords", .agg (keys.map fun z => .lit (.string z.data.toList))), ("athanor/lex.signs", .agg (signs.map fun z => .lit (.string z.data.toList)))] W := hL
 obtain ⟨ps,⟨g',t',cs,fuel,p,q,hg',ht',hvar,hd,hrest,_⟩,hend⟩:=hM;obtain rfl:=Option.some.inj (SU.symm.trans hg');obtain rfl:=Option.some.inj (acf.symm.trans ht');have hcs:=SX Tryz.underlying134 Tryz.underlying9 SW ach hd;have h0:=SY (fun k=>World.var?_cell SU hvar k) hcs;obtain ⟨g2,t2,gI,adE,p2,q2,hg2,ht2,acm,hd2,_⟩:=hrest;obtain rfl:=Option.some.inj (SV.symm.trans hg2);obtain rfl:=Option.some.inj (acg.symm.trans ht2);have hcs2:=SX Tryz.underlying135 Tryz.underlying9 SW aci hd2;exact ⟨h0,SY (fun k=>World.var?_cell SV acm k) hcs2⟩
noncomputable def J7 (os:Os):World :=
 { World.holding Tryz.prog os ⟨#[],#[],[]⟩ with heap:=((World.holding Tryz.prog os ⟨#[],#[],[]⟩).heap.modify 1 fun | .cells _ t frozen=>.cells #[.string ⟨#[116,121,112,101]⟩,.string ⟨#[102,117,110]⟩,.string ⟨#[108,101,116]⟩,.string ⟨#[114,101,99]⟩,.string ⟨#[105,110]⟩,.string ⟨#[99,97,115,101]⟩,.string ⟨#[111,102]⟩,.string ⟨#[101,110,100]⟩,.string ⟨#[105,102]⟩,.string ⟨#[116,104,101,110]⟩,.string ⟨#[101,108,115,101]⟩,.string ⟨#[112,114,105,110,116]⟩] t frozen|o=>o).modify 2 fun | .cells _ t frozen=>.cells #[.string ⟨#[45,62]⟩,.string ⟨#[61,61]⟩,.string ⟨#[124]⟩,.string ⟨#[61]⟩,.string ⟨#[40]⟩,.string ⟨#[41]⟩,.string ⟨#[59]⟩,.string ⟨#[43]⟩,.string ⟨#[45]⟩,.string ⟨#[42]⟩,.string ⟨#[47]⟩,.string ⟨#[37]⟩,.string ⟨#[60]⟩,.string ⟨#[95]⟩] t frozen|o=>o }
end Go.Proofs.YtkdbgopgjbfhbaaGreatDoor
namespace Go.Proofs.YtkdbgopgjbfhbaaGreatDoor
open Go.RowKit Lx Pz bw
set_option linter.unusedVariables false
namespace Pz
theorem abB:Tryz.prog.cellsOf 79=4:=by kernel_rfl
theorem SH:Tryz.prog.cellsOf 74=1:=by kernel_rfl
theorem abC:Tryz.prog.cellsOf 101=5:=by kernel_rfl
theorem Lm:Tryz.prog.cellsOf 25=1:=by kernel_rfl
theorem SI:Tryz.prog.cellsOf 27=7:=by kernel_rfl
theorem SJ:Tryz.prog.cellsOf 24=1:=by kernel_rfl
theorem abD:Tryz.prog.cellsOf 76=2:=by kernel_rfl
theorem abE:Tryz.prog.cellsOf 60=1:=by kernel_rfl
theorem abF:Tryz.prog.cellsOf 62=4:=by kernel_rfl
theorem abG:Tryz.prog.cellsOf 23=1:=by kernel_rfl
theorem abH:Tryz.prog.cellsOf 59=1:=by kernel_rfl
section Of
variable {H:Type} {enc:TypeId × Value->H} {w:World} {base:Nat} {spare:Nat->Bool} {held:Bool}
theorem abI {n d:Nat} {cs:List Value} {y:DataW H × List MemPlace} {b o:Nat} (hy:DataW.trod enc Tryz.prog w base spare held n 79 cs=some y) (hc:∀j,j<4->w.cell? ⟨b,o+j,none⟩=cs[j]?)
  (ih:∀m v x,n=m+1->DataW.trod enc Tryz.prog w base spare held m 74 [v]=some x->∃l,Row 4 (dw 0 w d) v l):∃t,dw 0 w (d+1) b o t:=by
 obtain ⟨xs,m,rfl,_,_,hxl,hall⟩:=DataW.trod_struct Tryz.underlying79 hy;obtain ⟨y0,g0⟩:=gP hxl hall 0 _ rfl;obtain ⟨y1,g1⟩:=gP hxl hall 1 _ rfl;obtain ⟨y2,g2⟩:=gP hxl hall 2 _ rfl;obtain ⟨y3,g3⟩:=gP hxl hall 3 _ rfl;obtain ⟨z0,mS,_⟩:=qJ Tryz.underlying3 qK g0;obtain ⟨z1,e1,_⟩:=xH Tryz.underlying9 vA g1;obtain ⟨z2,e2,_⟩:=qJ Tryz.underlying3 qK g2;obtain ⟨v3,e3,t3⟩:=tT Tryz.underlying74 SH g3;obtain ⟨l3,h3⟩:=ih m v3 _ rfl t3;exact ⟨_,Nat.zero_le _,z0,z1,z2,l3,v3,rfl,(hc 0 (by omega)).trans mS,(hc 1 (by omega)).trans e1,(hc 2 (by omega)).trans e2,(hc 3 (by omega)).trans e3,h3⟩
theorem abJ (fuel:Nat):∀(d:Nat) (v:Value) (x:DataW H × List MemPlace),fuel<=d->DataW.trod enc Tryz.prog w base spare held fuel 74 [v]=some x->∃l,Row 4 (dw 0 w d) v l:=by
 induction fuel using Nat.strongRecOn with
 | _ fuel ih =>
  intro d v x hd h;cases d with
  | zero =>
   obtain rfl:fuel=0:=by omega
   simp [DataW.trod] at h
  | succ d =>
   exact (Be 4 (by omega) (dw 0 w (d+1)) Tryz.underlying74 abB h fun n cs y b o hn hy _ hc =>
    abI hy hc fun m' v x hm hx=>ih m' (by omega) d v x (by omega) hx).1
theorem abK {n d:Nat} {cs:List Value} {y:DataW H × List MemPlace} {b o:Nat} (hy:DataW.trod enc Tryz.prog w base spare held n 101 cs=some y) (hc:∀j,j<5->w.cell? ⟨b,o+j,none⟩=cs[j]?)
  (ih:∀m v x,n=m+1->DataW.trod enc Tryz.prog w base spare held m 25 [v]=some x->∃l,Row 5 (bR 0 w d) v l):∃t,bR 0 w (d+1) b o t:=by
 obtain ⟨xs,m,rfl,_,_,hxl,hall⟩:=DataW.trod_struct Tryz.underlying101 hy;obtain ⟨y0,g0⟩:=gP hxl hall 0 _ rfl;obtain ⟨y1,g1⟩:=gP hxl hall 1 _ rfl;obtain ⟨y2,g2⟩:=gP hxl hall 2 _ rfl;obtain ⟨y3,g3⟩:=gP hxl hall 3 _ rfl;obtain ⟨y4,g4⟩:=gP hxl hall 4 _ rfl;obtain ⟨z0,mS,_⟩:=qJ Tryz.underlying3 qK g0;obtain ⟨z1,e1,_⟩:=xH Tryz.underlying9 vA g1;obtain ⟨z2,e2,_⟩:=qJ Tryz.underlying3 qK g2;obtain ⟨v3,e3,t3⟩:=tT Tryz.underlying25 Lm g3;obtain ⟨z4,e4,_⟩:=qJ Tryz.underlying3 qK g4;obtain ⟨l3,h3⟩:=ih m v3 _ rfl t3;exact ⟨_,Nat.zero_le _,z0,z1,z2,l3,z4,v3,rfl,(hc 0 (by omega)).trans mS,(hc 1 (by omega)).trans e1,(hc 2 (by omega)).trans e2,(hc 3 (by omega)).trans e3,(hc 4 (by omega)).trans e4,h3⟩
theorem SK (fuel:Nat):∀(d:Nat) (v:Value) (x:DataW H × List MemPlace),fuel<=d->DataW.trod enc Tryz.prog w base spare held fuel 25 [v]=some x->∃l,Row 5 (bR 0 w d) v l:=by
 induction fuel using Nat.strongRecOn with
 | _ fuel ih =>
  intro d v x hd h;cases d with
  | zero =>
   obtain rfl:fuel=0:=by omega
   simp [DataW.trod] at h
  | succ d =>
   exact (Be 5 (by omega) (bR 0 w (d+1)) Tryz.underlying25 abC h fun n cs y b o hn hy _ hc =>
    abK hy hc fun m' v x hm hx=>ih m' (by omega) d v x (by omega) hx).1
theorem abL {n d:Nat} {cs:List Value} {y:DataW H × List MemPlace} {b o:Nat} (hd:n<=d+1) (hy:DataW.trod enc Tryz.prog w base spare held n 27 cs=some y) (hc:∀j,j<7->w.cell? ⟨b,o+j,none⟩=cs[j]?)
  (ih:∀m v x,n=m+1->DataW.trod enc Tryz.prog w base spare held m 24 [v]=some x->∃l,Row 7 (cf 0 w d) v l):∃t,cf 0 w (d+1) b o t:=by
 obtain ⟨xs,m,rfl,_,_,hxl,hall⟩:=DataW.trod_struct Tryz.underlying27 hy;obtain ⟨y0,g0⟩:=gP hxl hall 0 _ rfl;obtain ⟨y1,g1⟩:=gP hxl hall 1 _ rfl;obtain ⟨y2,g2⟩:=gP hxl hall 2 _ rfl;obtain ⟨y3,g3⟩:=gP hxl hall 3 _ rfl;obtain ⟨y4,g4⟩:=gP hxl hall 4 _ rfl;obtain ⟨y5,g5⟩:=gP hxl hall 5 _ rfl;obtain ⟨y6,g6⟩:=gP hxl hall 6 _ rfl;obtain ⟨z0,mS,_⟩:=qJ Tryz.underlying3 qK g0;obtain ⟨z1,e1,_⟩:=xH Tryz.underlying9 vA g1;obtain ⟨z2,e2,_⟩:=xH Tryz.underlying9 vA g2;obtain ⟨z3,e3,_⟩:=qJ Tryz.underlying3 qK g3;obtain ⟨v4,e4,t4⟩:=tT Tryz.underlying24 SJ g4;obtain ⟨v5,e5,t5⟩:=tT Tryz.underlying25 Lm g5;obtain ⟨z6,e6,_⟩:=qJ Tryz.underlying3 qK g6;obtain ⟨l4,h4⟩:=ih m v4 _ rfl t4;obtain ⟨l5,h5⟩:=SK m d v5 _ (by omega) t5;exact ⟨_,Nat.zero_le _,z0,z1,z2,z3,l4,l5,z6,v4,v5,rfl,(hc 0 (by omega)).trans mS,(hc 1 (by omega)).trans e1,(hc 2 (by omega)).trans e2,(hc 3 (by omega)).trans e3,(hc 4 (by omega)).trans e4,(hc 5 (by omega)).trans e5,(hc 6 (by omega)).trans e6,h4,h5⟩
theorem abM (fuel:Nat):∀(d:Nat) (v:Value) (x:DataW H × List MemPlace),fuel<=d->DataW.trod enc Tryz.prog w base spare held fuel 24 [v]=some x->∃l,Row 7 (cf 0 w d) v l:=by
 induction fuel using Nat.strongRecOn with
 | _ fuel ih =>
  intro d v x hd h;cases d with
  | zero =>
   obtain rfl:fuel=0:=by omega
   simp [DataW.trod] at h
  | succ d =>
   exact (Be 7 (by omega) (cf 0 w (d+1)) Tryz.underlying24 SI h fun n cs y b o hn hy _ hc =>
    abL (by omega) hy hc fun m' v x hm hx=>ih m' (by omega) d v x (by omega) hx).1
theorem abN {l:List Value} (h:∀x ∈ l,∃s,x=Value.string s):∃ps:List ByteArray,l=ps.map Value.string:=by
 induction l with
 | nil=>exact ⟨[],rfl⟩
 | cons x l ih =>
  obtain ⟨s,rfl⟩:=h _ (List.Mem.head _);obtain ⟨ps,rfl⟩:=ih fun y hy=>h y (List.Mem.tail _ hy);exact ⟨s :: ps,rfl⟩
theorem abO {fuel:Nat} {v:Value} {x:DataW H × List MemPlace} (h:DataW.trod enc Tryz.prog w base spare held fuel 59 [v]=some x):∃ps,kS 0 v ps w:=by
 obtain ⟨l,hl⟩:=(Be 1 (by omega) (fun b o (t:Value)=>Hy 0 w b o t/\∃s,t=Value.string s) Tryz.underlying59 vA h fun n cs y b o _ hy hl hc=>by
  obtain ⟨z,h1,_⟩:=DataW.trod_string Tryz.underlying9 hy;refine ⟨.string z,⟨Nat.zero_le _,?_⟩,z,rfl⟩
  have:=hc 0 (by omega)
  rw [h1] at this;simpa using this).1
 obtain ⟨ps,rfl⟩:=abN fun x hx=>by
  obtain ⟨b,o,_,h⟩:=Pz.nQ hl hx;exact h
 exact ⟨ps,hl.imp fun _ _ _ _ h=>h.1⟩
theorem abP {fuel:Nat} {v:Value} {x:DataW H × List MemPlace} (h:DataW.trod enc Tryz.prog w base spare held fuel 60 [v]=some x):∃l,oK 0 v l w :=
 (Be 2 (by omega) (lD 0 w) Tryz.underlying60 abD h fun n cs y b o _ hy hl hc=>by
  obtain ⟨xs,m,rfl,_,_,hxl,hall⟩:=DataW.trod_struct Tryz.underlying76 hy;obtain ⟨y0,g0⟩:=gP hxl hall 0 _ rfl;obtain ⟨y1,g1⟩:=gP hxl hall 1 _ rfl;obtain ⟨z0,mS,_⟩:=xH Tryz.underlying9 vA g0;obtain ⟨v1,e1,t1⟩:=tT Tryz.underlying74 SH g1;obtain ⟨l1,h1⟩:=abJ m m v1 _ (Nat.le_refl _) t1;exact ⟨_,Nat.zero_le _,z0,l1,v1,rfl,(hc 0 (by omega)).trans mS,(hc 1 (by omega)).trans e1,m,h1⟩).1
theorem abQ {fuel:Nat} {v:Value} {x:DataW H × List MemPlace} (h:DataW.trod enc Tryz.prog w base spare held fuel 23 [v]=some x):∃l,iN 0 v l w :=
 (Be 4 (by omega) (nV 0 w) Tryz.underlying23 abF h fun n cs y b o _ hy hl hc=>by
  obtain ⟨xs,m,rfl,_,_,hxl,hall⟩:=DataW.trod_struct Tryz.underlying62 hy;obtain ⟨y0,g0⟩:=gP hxl hall 0 _ rfl;obtain ⟨y1,g1⟩:=gP hxl hall 1 _ rfl;obtain ⟨y2,g2⟩:=gP hxl hall 2 _ rfl;obtain ⟨y3,g3⟩:=gP hxl hall 3 _ rfl;obtain ⟨z0,mS,_⟩:=xH Tryz.underlying9 vA g0;obtain ⟨v1,e1,t1⟩:=tT Tryz.underlying59 abH g1;obtain ⟨v2,e2,t2⟩:=tT Tryz.underlying60 abE g2;obtain ⟨z3,e3,_⟩:=qJ Tryz.underlying3 qK g3;obtain ⟨l1,h1⟩:=abO t1;obtain ⟨l2,h2⟩:=abP t2;exact ⟨_,Nat.zero_le _,z0,l1,l2,z3,v1,v2,rfl,(hc 0 (by omega)).trans mS,(hc 1 (by omega)).trans e1,(hc 2 (by omega)).trans e2,(hc 3 (by omega)).trans e3,h1,h2⟩).1
theorem QF {fuel:Nat} {v0 v1 v2 v3 v4 v5 v6 v7:Value} {x:DataW H × List MemPlace} (h:DataW.trod enc Tryz.prog w base spare held fuel 29 [v0,v1,v2,v3,v4,v5,v6,v7]=some x):∃ds t,fw 0 (ds,t) (.agg #[v0,v1,v2,v3,v4,v5,v6,v7]) w:=by
 obtain ⟨xs,m,rfl,_,_,hxl,hall⟩:=DataW.trod_struct Tryz.underlying29 h;obtain ⟨y0,g0⟩:=gP hxl hall 0 _ rfl;obtain ⟨y1,g1⟩:=gP hxl hall 1 _ rfl;obtain ⟨u0,mS,t0⟩:=tT Tryz.underlying23 abG g0;obtain rfl:v0=u0:=by simpa using mS
 obtain ⟨ds,hds⟩:=abQ t0;have g1:DataW.trod enc Tryz.prog w base spare held m 27 (([v0,v1,v2,v3,v4,v5,v6,v7].drop 1).take (Tryz.prog.cellsOf 27))=some y1:=g1;rw [SI] at g1;obtain ⟨xs,m,rfl,_,_,hxl,hall⟩:=DataW.trod_struct Tryz.underlying27 g1;obtain ⟨y0,g0⟩:=gP hxl hall 0 _ rfl;obtain ⟨y1,g1⟩:=gP hxl hall 1 _ rfl;obtain ⟨y2,g2⟩:=gP hxl hall 2 _ rfl;obtain ⟨y3,g3⟩:=gP hxl hall 3 _ rfl;obtain ⟨y4,g4⟩:=gP hxl hall 4 _ rfl;obtain ⟨y5,g5⟩:=gP hxl hall 5 _ rfl;obtain ⟨y6,g6⟩:=gP hxl hall 6 _ rfl;obtain ⟨z0,mS,_⟩:=qJ Tryz.underlying3 qK g0;obtain ⟨z1,e1,_⟩:=xH Tryz.underlying9 vA g1;obtain ⟨z2,e2,_⟩:=xH Tryz.underlying9 vA g2;obtain ⟨z3,e3,_⟩:=qJ Tryz.underlying3 qK g3;obtain ⟨u4,e4,t4⟩:=tT Tryz.underlying24 SJ g4;obtain ⟨u5,e5,t5⟩:=tT Tryz.underlying25 Lm g5;obtain ⟨z6,e6,_⟩:=qJ Tryz.underlying3 qK g6;obtain rfl:v1=_:=by simpa using mS
 obtain rfl:v2=_:=by simpa using e1
 obtain rfl:v3=_:=by simpa using e2
 obtain rfl:v4=_:=by simpa using e3
 obtain rfl:v5=u4:=by simpa using e4
 obtain rfl:v6=u5:=by simpa using e5
 obtain rfl:v7=_:=by simpa using e6
 obtain ⟨l4,h4⟩:=abM m m v5 _ (Nat.le_refl _) t4;obtain ⟨l5,h5⟩:=SK m m v6 _ (Nat.le_refl _) t5;exact ⟨ds,_,v0,z0,z1,z2,z3,v5,v6,z6,rfl,hds,m,z0,z1,z2,z3,l4,l5,z6,v5,v6,rfl,rfl,h4,h5⟩
end Of
end Pz
end Go.Proofs.YtkdbgopgjbfhbaaGreatDoor
