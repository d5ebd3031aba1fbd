/- Texts that the claim needs. -/
import Derived.Test.YtegboefdolfdgaaGreatDoorQDM3
import Derived.Test.YtegboefdolfdgaaGreatDoorQDM4
import Derived.Test.YtegboefdolfdgaaGreatDoorQDM1
import Derived.Orders
namespace Go.Proofs.YtegboefdolfdgaaGreatDoor
open Go.RowKit aA
set_option linter.unusedVariables false
theorem LY {I:World->Prop} (C:ck I) (op:Int) (w:World) (hI:I w):Calls Tryz.prog 89 #[.int .i64 op] w fun e w'=>e=.returned (.int .i64 (form op))/\Below w.heap.size w w':=by
 by_cases c0:op<=-1
 ·have e:form op=0:=by
   unfold form
   repeat first|rw [if_neg (by omega)]|rw [if_pos (by omega)]
  rw [e];exact LZ C op w (by omega) hI
 by_cases c1:op<=0
 ·have e:form op=1:=by
   unfold form
   repeat first|rw [if_neg (by omega)]|rw [if_pos (by omega)]
  rw [e];exact L6 C op w (by omega) hI
 by_cases c2:op<=1
 ·have e:form op=1:=by
   unfold form
   repeat first|rw [if_neg (by omega)]|rw [if_pos (by omega)]
  rw [e];exact L8 C op w (by omega) hI
 by_cases c3:op<=2
 ·have e:form op=2:=by
   unfold form
   repeat first|rw [if_neg (by omega)]|rw [if_pos (by omega)]
  rw [e];exact L9 C op w (by omega) hI
 by_cases c4:op<=3
 ·have e:form op=2:=by
   unfold form
   repeat first|rw [if_neg (by omega)]|rw [if_pos (by omega)]
  rw [e];exact Ma C op w (by omega) hI
 by_cases c5:op<=4
 ·have e:form op=3:=by
   unfold form
   repeat first|rw [if_neg (by omega)]|rw [if_pos (by omega)]
  rw [e];exact Mb C op w (by omega) hI
 by_cases c6:op<=11
 ·have e:form op=0:=by
   unfold form
   repeat first|rw [if_neg (by omega)]|rw [if_pos (by omega)]
  rw [e];exact Mc C op w (by omega) hI
 by_cases c7:op<=12
 ·have e:form op=4:=by
   unfold form
   repeat first|rw [if_neg (by omega)]|rw [if_pos (by omega)]
  rw [e];exact Md C op w (by omega) hI
 by_cases c8:op<=13
 ·have e:form op=4:=by
   unfold form
   repeat first|rw [if_neg (by omega)]|rw [if_pos (by omega)]
  rw [e];exact Me C op w (by omega) hI
 by_cases c9:op<=14
 ·have e:form op=5:=by
   unfold form
   repeat first|rw [if_neg (by omega)]|rw [if_pos (by omega)]
  rw [e];exact Mf C op w (by omega) hI
 by_cases c10:op<=15
 ·have e:form op=1:=by
   unfold form
   repeat first|rw [if_neg (by omega)]|rw [if_pos (by omega)]
  rw [e];exact Mg C op w (by omega) hI
 by_cases c11:op<=16
 ·have e:form op=6:=by
   unfold form
   repeat first|rw [if_neg (by omega)]|rw [if_pos (by omega)]
  rw [e];exact Mh C op w (by omega) hI
 by_cases c12:op<=17
 ·have e:form op=7:=by
   unfold form
   repeat first|rw [if_neg (by omega)]|rw [if_pos (by omega)]
  rw [e];exact Mi C op w (by omega) hI
 by_cases c13:op<=25
 ·have e:form op=0:=by
   unfold form
   repeat first|rw [if_neg (by omega)]|rw [if_pos (by omega)]
  rw [e];exact Mj C op w (by omega) hI
 by_cases c14:op<=26
 ·have e:form op=1:=by
   unfold form
   repeat first|rw [if_neg (by omega)]|rw [if_pos (by omega)]
  rw [e];exact Mk C op w (by omega) hI
 by_cases c15:op<=27
 ·have e:form op=1:=by
   unfold form
   repeat first|rw [if_neg (by omega)]|rw [if_pos (by omega)]
  rw [e];exact Ml C op w (by omega) hI
 by_cases c16:op<=31
 ·have e:form op=0:=by
   unfold form
   repeat first|rw [if_neg (by omega)]|rw [if_pos (by omega)]
  rw [e];exact Mm C op w (by omega) hI
 by_cases c17:op<=36
 ·have e:form op=6:=by
   unfold form
   repeat first|rw [if_neg (by omega)]|rw [if_pos (by omega)]
  rw [e];exact Mo C op w (by omega) hI
 by_cases c18:op<=39
 ·have e:form op=0:=by
   unfold form
   repeat first|rw [if_neg (by omega)]|rw [if_pos (by omega)]
  rw [e];exact Mq C op w (by omega) hI
 by_cases c19:op<=40
 ·have e:form op=8:=by
   unfold form
   repeat first|rw [if_neg (by omega)]|rw [if_pos (by omega)]
  rw [e];exact Mr C op w (by omega) hI
 by_cases Ms:op<=41
 ·have e:form op=8:=by
   unfold form
   repeat first|rw [if_neg (by omega)]|rw [if_pos (by omega)]
  rw [e];exact Mt C op w (by omega) hI
 by_cases c21:op<=42
 ·have e:form op=10:=by
   unfold form
   repeat first|rw [if_neg (by omega)]|rw [if_pos (by omega)]
  rw [e];exact Mv C op w (by omega) hI
 by_cases qY:op<=43
 ·have e:form op=10:=by
   unfold form
   repeat first|rw [if_neg (by omega)]|rw [if_pos (by omega)]
  rw [e];exact Mw C op w (by omega) hI
 by_cases Bb:op<=55
 ·have e:form op=8:=by
   unfold form
   repeat first|rw [if_neg (by omega)]|rw [if_pos (by omega)]
  rw [e];exact Mx C op w (by omega) hI
 by_cases Cz:op<=56
 ·have e:form op=10:=by
   unfold form
   repeat first|rw [if_neg (by omega)]|rw [if_pos (by omega)]
  rw [e];exact My C op w (by omega) hI
 by_cases Ch:op<=57
 ·have e:form op=10:=by
   unfold form
   repeat first|rw [if_neg (by omega)]|rw [if_pos (by omega)]
  rw [e];exact MB C op w (by omega) hI
 by_cases vX:op<=62
 ·have e:form op=8:=by
   unfold form
   repeat first|rw [if_neg (by omega)]|rw [if_pos (by omega)]
  rw [e];exact MC C op w (by omega) hI
 by_cases ME:op<=63
 ·have e:form op=1:=by
   unfold form
   repeat first|rw [if_neg (by omega)]|rw [if_pos (by omega)]
  rw [e];exact MF C op w (by omega) hI
 by_cases MH:op<=64
 ·have e:form op=1:=by
   unfold form
   repeat first|rw [if_neg (by omega)]|rw [if_pos (by omega)]
  rw [e];exact MI C op w (by omega) hI
 by_cases MJ:op<=65
 ·have e:form op=9:=by
   unfold form
   repeat first|rw [if_neg (by omega)]|rw [if_pos (by omega)]
  rw [e];exact MK C op w (by omega) hI
 by_cases ML:op<=66
 ·have e:form op=9:=by
   unfold form
   repeat first|rw [if_neg (by omega)]|rw [if_pos (by omega)]
  rw [e];exact MN C op w (by omega) hI
 by_cases MO:op<=67
 ·have e:form op=10:=by
   unfold form
   repeat first|rw [if_neg (by omega)]|rw [if_pos (by omega)]
  rw [e];exact MP C op w (by omega) hI
 by_cases c32:op<=68
 ·have e:form op=10:=by
   unfold form
   repeat first|rw [if_neg (by omega)]|rw [if_pos (by omega)]
  rw [e];exact MQ C op w (by omega) hI
 by_cases MR:op<=90
 ·have e:form op=1:=by
   unfold form
   repeat first|rw [if_neg (by omega)]|rw [if_pos (by omega)]
  rw [e];exact MS C op w (by omega) hI
 by_cases MU:op<=102
 ·have e:form op=10:=by
   unfold form
   repeat first|rw [if_neg (by omega)]|rw [if_pos (by omega)]
  rw [e];exact MV C op w (by omega) hI
 by_cases MX:op<=138
 ·have e:form op=1:=by
   unfold form
   repeat first|rw [if_neg (by omega)]|rw [if_pos (by omega)]
  rw [e];exact MZ C op w (by omega) hI
 by_cases M0:op<=166
 ·have e:form op=10:=by
   unfold form
   repeat first|rw [if_neg (by omega)]|rw [if_pos (by omega)]
  rw [e];exact M3 C op w (by omega) hI
 by_cases M4:op<=167
 ·have e:form op=1:=by
   unfold form
   repeat first|rw [if_neg (by omega)]|rw [if_pos (by omega)]
  rw [e];exact M5 C op w (by omega) hI
 by_cases M6:op<=171
 ·have e:form op=10:=by
   unfold form
   repeat first|rw [if_neg (by omega)]|rw [if_pos (by omega)]
  rw [e];exact M7 C op w (by omega) hI
 by_cases M8:op<=173
 ·have e:form op=1:=by
   unfold form
   repeat first|rw [if_neg (by omega)]|rw [if_pos (by omega)]
  rw [e];exact M9 C op w (by omega) hI
 by_cases Na:op<=191
 ·have e:form op=10:=by
   unfold form
   repeat first|rw [if_neg (by omega)]|rw [if_pos (by omega)]
  rw [e];exact Nc C op w (by omega) hI
 have e:form op=0:=by
  unfold form
  repeat rw [if_neg (by omega)]
 rw [e];exact Nf C op w (by omega) hI
theorem Tv (op:Int) (w:World) (h:op<=68):Calls Tryz.prog 100 #[.int .i64 op] w fun e w'=>e=.returned (.bool false)/\w'=w:=by
 have wW:(op == 167)=false:=by rw [beq_eq_false_iff_ne];omega
 have wX:(op == 172)=false:=by rw [beq_eq_false_iff_ne];omega
 have wY:(op == 173)=false:=by rw [beq_eq_false_iff_ne];omega
 have wZ:decide ((69:Int)<=op)=false:=decide_eq_false (by omega);have xa:decide ((103:Int)<=op)=false:=decide_eq_false (by omega);clear h;go_enter Tryz.func100,Tryz.ntmps100;go_wp2;go_ret;exact ⟨rfl,rfl⟩
theorem Tw (op:Int) (w:World) (h:69<=op/\op<=90):Calls Tryz.prog 100 #[.int .i64 op] w fun e w'=>e=.returned (.bool true)/\w'=w:=by
 have wW:(op == 167)=false:=by rw [beq_eq_false_iff_ne];omega
 have wX:(op == 172)=false:=by rw [beq_eq_false_iff_ne];omega
 have wY:(op == 173)=false:=by rw [beq_eq_false_iff_ne];omega
 have wZ:decide ((69:Int)<=op)=true:=decide_eq_true (by omega);have Ai:decide (op<=(90:Int))=true:=decide_eq_true (by omega);have xa:decide ((103:Int)<=op)=false:=decide_eq_false (by omega);clear h;go_enter Tryz.func100,Tryz.ntmps100;go_wp2;go_ret;exact ⟨rfl,rfl⟩
theorem Tx (op:Int) (w:World) (h:91<=op/\op<=102):Calls Tryz.prog 100 #[.int .i64 op] w fun e w'=>e=.returned (.bool false)/\w'=w:=by
 have wW:(op == 167)=false:=by rw [beq_eq_false_iff_ne];omega
 have wX:(op == 172)=false:=by rw [beq_eq_false_iff_ne];omega
 have wY:(op == 173)=false:=by rw [beq_eq_false_iff_ne];omega
 have wZ:decide ((69:Int)<=op)=true:=decide_eq_true (by omega);have Ai:decide (op<=(90:Int))=false:=decide_eq_false (by omega);have xa:decide ((103:Int)<=op)=false:=decide_eq_false (by omega);clear h;go_enter Tryz.func100,Tryz.ntmps100;go_wp2;go_ret;exact ⟨rfl,rfl⟩
theorem Ty (op:Int) (w:World) (h:103<=op/\op<=138):Calls Tryz.prog 100 #[.int .i64 op] w fun e w'=>e=.returned (.bool true)/\w'=w:=by
 have wW:(op == 167)=false:=by rw [beq_eq_false_iff_ne];omega
 have wX:(op == 172)=false:=by rw [beq_eq_false_iff_ne];omega
 have wY:(op == 173)=false:=by rw [beq_eq_false_iff_ne];omega
 have wZ:decide ((69:Int)<=op)=true:=decide_eq_true (by omega);have Ai:decide (op<=(90:Int))=false:=decide_eq_false (by omega);have xa:decide ((103:Int)<=op)=true:=decide_eq_true (by omega);have Ev:decide (op<=(138:Int))=true:=decide_eq_true (by omega);clear h;go_enter Tryz.func100,Tryz.ntmps100;go_wp2;go_ret;exact ⟨rfl,rfl⟩
theorem Tz (op:Int) (w:World) (h:139<=op/\op<=166):Calls Tryz.prog 100 #[.int .i64 op] w fun e w'=>e=.returned (.bool false)/\w'=w:=by
 have wW:(op == 167)=false:=by rw [beq_eq_false_iff_ne];omega
 have wX:(op == 172)=false:=by rw [beq_eq_false_iff_ne];omega
 have wY:(op == 173)=false:=by rw [beq_eq_false_iff_ne];omega
 have wZ:decide ((69:Int)<=op)=true:=decide_eq_true (by omega);have Ai:decide (op<=(90:Int))=false:=decide_eq_false (by omega);have xa:decide ((103:Int)<=op)=true:=decide_eq_true (by omega);have Ev:decide (op<=(138:Int))=false:=decide_eq_false (by omega);clear h;go_enter Tryz.func100,Tryz.ntmps100;go_wp2;go_ret;exact ⟨rfl,rfl⟩
theorem TA (op:Int) (w:World) (h:167<=op/\op<=167):Calls Tryz.prog 100 #[.int .i64 op] w fun e w'=>e=.returned (.bool true)/\w'=w:=by
 obtain rfl:op=167:=by omega
 clear h;go_enter Tryz.func100,Tryz.ntmps100;go_wp2;go_ret;exact ⟨rfl,rfl⟩
theorem TB (op:Int) (w:World) (h:168<=op/\op<=171):Calls Tryz.prog 100 #[.int .i64 op] w fun e w'=>e=.returned (.bool false)/\w'=w:=by
 have wW:(op == 167)=false:=by rw [beq_eq_false_iff_ne];omega
 have wX:(op == 172)=false:=by rw [beq_eq_false_iff_ne];omega
 have wY:(op == 173)=false:=by rw [beq_eq_false_iff_ne];omega
 have wZ:decide ((69:Int)<=op)=true:=decide_eq_true (by omega);have Ai:decide (op<=(90:Int))=false:=decide_eq_false (by omega);have xa:decide ((103:Int)<=op)=true:=decide_eq_true (by omega);have Ev:decide (op<=(138:Int))=false:=decide_eq_false (by omega);clear h;go_enter Tryz.func100,Tryz.ntmps100;go_wp2;go_ret;exact ⟨rfl,rfl⟩
theorem TC (op:Int) (w:World) (h:172<=op/\op<=172):Calls Tryz.prog 100 #[.int .i64 op] w fun e w'=>e=.returned (.bool true)/\w'=w:=by
 obtain rfl:op=172:=by omega
 clear h;go_enter Tryz.func100,Tryz.ntmps100;go_wp2;go_ret;exact ⟨rfl,rfl⟩
theorem TD (op:Int) (w:World) (h:173<=op/\op<=173):Calls Tryz.prog 100 #[.int .i64 op] w fun e w'=>e=.returned (.bool true)/\w'=w:=by
 obtain rfl:op=173:=by omega
 clear h;go_enter Tryz.func100,Tryz.ntmps100;go_wp2;go_ret;exact ⟨rfl,rfl⟩
theorem TE (op:Int) (w:World) (h:174<=op):Calls Tryz.prog 100 #[.int .i64 op] w fun e w'=>e=.returned (.bool false)/\w'=w:=by
 have wW:(op == 167)=false:=by rw [beq_eq_false_iff_ne];omega
 have wX:(op == 172)=false:=by rw [beq_eq_false_iff_ne];omega
 have wY:(op == 173)=false:=by rw [beq_eq_false_iff_ne];omega
 have wZ:decide ((69:Int)<=op)=true:=decide_eq_true (by omega);have Ai:decide (op<=(90:Int))=false:=decide_eq_false (by omega);have xa:decide ((103:Int)<=op)=true:=decide_eq_true (by omega);have Ev:decide (op<=(138:Int))=false:=decide_eq_false (by omega);clear h;go_enter Tryz.func100,Tryz.ntmps100;go_wp2;go_ret;exact ⟨rfl,rfl⟩
theorem TF (op:Int) (w:World):Calls Tryz.prog 100 #[.int .i64 op] w fun e w'=>e=.returned (.bool (bC op))/\w'=w:=by
 by_cases c0:op<=68
 ·rw [show bC op=false from decide_eq_false (by omega)];exact Tv op w (by omega)
 by_cases c1:op<=90
 ·rw [show bC op=true from decide_eq_true (by omega)];exact Tw op w (by omega)
 by_cases c2:op<=102
 ·rw [show bC op=false from decide_eq_false (by omega)];exact Tx op w (by omega)
 by_cases c3:op<=138
 ·rw [show bC op=true from decide_eq_true (by omega)];exact Ty op w (by omega)
 by_cases c4:op<=166
 ·rw [show bC op=false from decide_eq_false (by omega)];exact Tz op w (by omega)
 by_cases c5:op<=167
 ·rw [show bC op=true from decide_eq_true (by omega)];exact TA op w (by omega)
 by_cases c6:op<=171
 ·rw [show bC op=false from decide_eq_false (by omega)];exact TB op w (by omega)
 by_cases c7:op<=172
 ·rw [show bC op=true from decide_eq_true (by omega)];exact TC op w (by omega)
 by_cases c8:op<=173
 ·rw [show bC op=true from decide_eq_true (by omega)];exact TD op w (by omega)
 rw [show bC op=false from decide_eq_false (by omega)];exact TE op w (by omega)
theorem PH:ck (fun _=>True):=⟨fun _ _=>trivial,fun op w _=>(TF op w).mono fun e w' ⟨h1,h2⟩=>⟨h1,by rw [h2];exact Below.refl _ _⟩⟩
theorem count_set {l:Array Bool} {i:Nat} (h:l.getD i true=false):(l.setIfInBounds i true).toList.count false+1=l.toList.count false:=by
 have hi:i<l.size:=by
  rcases Nat.lt_or_ge i l.size with h'|h'
  ·exact h'
  ·simp [Array.getD,Nat.not_lt.2 h'] at h
 have he:l[i]=false:=by simpa [Array.getD,hi] using h
 have hl:l.toList=l.toList.take i++false :: l.toList.drop (i+1):=by
  rw [<- he]
  have:i<l.toList.length:=by simpa using hi
  conv=>lhs;rw [<- List.take_append_drop i l.toList,List.drop_eq_getElem_cons this]
  simp
 have hs:(l.setIfInBounds i true).toList=l.toList.take i++true :: l.toList.drop (i+1):=by
  rw [Array.toList_setIfInBounds,List.set_eq_take_append_cons_drop,if_pos (by simpa using hi)]
 have e1:=congrArg (List.count false) hl;have e2:=congrArg (List.count false) hs;rw [List.count_append,List.count_cons_self] at e1;rw [List.count_append,List.count_cons_of_ne (by simp)] at e2;omega
theorem R6 {P:Program} {md:Region.Mode} {ops:Array Oper} {Q:Exit->Act->World->Prop} (Inv:Array Bool->Act->World->Prop)
  (hstep:∀listed i a w,i ∈ Region.ready md ops listed->Inv listed a w->wpOp P ops Q i (Inv (listed.setIfInBounds i true)) a w)
  (hdone:∀listed a w,Region.ready md ops listed = []->Inv listed a w->Q .normal a w) :
  ∀(fuel:Nat) (listed:Array Bool) (a:Act) (w:World),listed.toList.count false<=fuel->Inv listed a w->wpAny P md ops Q fuel listed a w:=by
 intro fuel
 induction fuel with
 | zero =>
  intro listed a w hc hI
  have hr:Region.ready md ops listed = []:=by
   cases hrr:Region.ready md ops listed with
   | nil=>rfl
   | cons i r =>
    have hm:i ∈ Region.ready md ops listed:=by rw [hrr];simp
    have:=count_set (mem_ready.1 hm).1
    omega
  exact ⟨hr,hdone _ _ _ hr hI⟩
 | succ fuel ih =>
  intro listed a w hc hI;refine ⟨fun hr=>hdone _ _ _ hr hI,fun i hi=>?_⟩;refine wpOp_mono (fun a' w' h=>ih _ a' w' ?_ h) (hstep listed i a w hi hI)
  have:=count_set (mem_ready.1 hi).1
  omega
theorem xE {P:Program} {ops:Array Oper} {Q:Exit->Act->World->Prop} {id:Nat} {a:Act} {w:World} (Inv:Array Bool->Act->World->Prop) (hm:P.follows .mixedOrders=true)
  (hstep:∀listed i a w,i ∈ Region.ready .any ops listed->Inv listed a w->wpOp P ops Q i (Inv (listed.setIfInBounds i true)) a w)
  (hdone:∀listed a w,Region.ready .any ops listed = []->Inv listed a w->Q .normal a w)
  (h0:Inv (Array.replicate ops.size false) a { w with drawn:=w.drawn+1 }):(Code.region id ops true).wp P Q a w :=
 wp_region_any hm (R6 Inv hstep hdone _ _ _ _ (by simp) h0)
namespace af
def deps (o:Oper):List Nat:=(o.after.toList.filter (fun e=>Region.binds .any e)).map (·.on)
def iw (ops:Array Oper) (i:Nat):List Nat:=match ops[i]? with
 | some o=>deps o
 | none=>[]
def sK (ops:Array Oper):List Nat->Nat->List Nat
 | acc,0=>acc
 | acc,i+1=>sK ops (if acc.any (fun m=>(iw ops m).contains i) then i :: acc else acc) i
def qc (ops:Array Oper) (n:Nat):Bool :=
 decide (n<ops.size) && (List.range ops.size).all (fun i=>(iw ops i).all (fun j=>decide (j<i)) && (decide (i<n) || (List.range i).all (fun j=>(sK ops [i] i).contains j)))
def Closed (ops:Array Oper) (L:Array Bool):Prop:=∀i,L.getD i false=true->∀j ∈ iw ops i,L.getD j false=true
theorem xH {ops:Array Oper} {L:Array Bool} {k:Nat} (hc:Closed ops L) (hk:∀j ∈ iw ops k,L.getD j false=true):∀(i:Nat) (acc:List Nat),(∀m ∈ acc,m=k\/L.getD m false=true)->∀m ∈ sK ops acc i,m=k\/L.getD m false=true
 | 0,acc,h=>h
 | i+1,acc,h=>by
  unfold sK;refine xH hc hk i _ ?_;split
  ·rename_i ha;intro m hm;rcases List.mem_cons.1 hm with rfl|hm
   ·obtain ⟨q,hq,hqi⟩:=List.any_eq_true.1 ha;have Kg:m ∈ iw ops q:=by simpa using hqi
    rcases h q hq with rfl|hL
    ·exact .inr (hk _ Kg)
    ·exact .inr (hc q hL _ Kg)
   ·exact h m hm
  ·exact h
theorem fN (L:Array Bool) (i j:Nat) (hi:i<L.size):(L.setIfInBounds i true).getD j false=if j=i then true else L.getD j false:=by
 by_cases h:j=i
 ·subst h;rw [if_pos rfl];simp [Array.getD,hi]
 ·rw [if_neg h];simp only [Array.getD,Array.size_setIfInBounds];split
  ·rename_i hj;exact Array.getElem_setIfInBounds_ne (xs:=L) hj (fun e=>h e.symm)
  ·rfl
theorem xG {L:Array Bool} {i:Nat} (h:L.getD i true=false):i<L.size/\L.getD i false=false:=by
 have hi:i<L.size:=by
  rcases Nat.lt_or_ge i L.size with h'|h'
  ·exact h'
  ·simp [Array.getD,Nat.not_lt.2 h'] at h
 refine ⟨hi,?_⟩;simpa [Array.getD,hi] using h
structure Fr (a0:Act) (dst:Nat->Nat) (n:Nat) (a:Act):Prop where
 defers:a.defers=a0.defers
 size:a.tmps.size=a0.tmps.size
 rest:∀k,(∀i,i<n->dst i≠k)->a.tmps[k]?=a0.tmps[k]?
theorem Fr.eval {a0:Act} {dst:Nat->Nat} {n:Nat} {a:Act} (h:Fr a0 dst n a) (k:Nat) (hk:∀i,i<n->dst i≠k):a.eval (.tmp k)=a0.eval (.tmp k):=by
 show a.tmps.getD k undef=a0.tmps.getD k undef;rw [Array.getD_eq_getD_getElem?,Array.getD_eq_getD_getElem?,h.rest k hk]
theorem Fr.put {a0:Act} {dst:Nat->Nat} {n i:Nat} {a:Act} (h:Fr a0 dst n a) (hi:i<n) (v:Value):Fr a0 dst n (a.put (some (dst i)) v):=by
 refine ⟨h.defers,?_,fun k hk=>?_⟩
 ·show (a.tmps.setIfInBounds (dst i) v).size=_;rw [Array.size_setIfInBounds,h.size]
 ·show (a.tmps.setIfInBounds (dst i) v)[k]?=_;rw [Array.getElem?_setIfInBounds_ne (hk i hi),h.rest k hk]
theorem Fr.mono {a0:Act} {dst:Nat->Nat} {n n':Nat} {a:Act} (h:Fr a0 dst n a) (hn:n<=n'):Fr a0 dst n' a:=⟨h.defers,h.size,fun k hk=>h.rest k fun i hi=>hk i (by omega)⟩
theorem uD {a:Act} {k:Nat} (v:Value) (hk:k<a.tmps.size):(a.put (some k) v).eval (.tmp k)=v:=by
 show (a.tmps.setIfInBounds k v).getD k undef=v;simp [Array.getD,hk]
theorem qg {a:Act} {k j:Nat} (v:Value) (hk:k≠j):(a.put (some k) v).eval (.tmp j)=a.eval (.tmp j):=by
 show (a.tmps.setIfInBounds k v).getD j undef=a.tmps.getD j undef;rw [Array.getD_eq_getD_getElem?,Array.getD_eq_getD_getElem?,Array.getElem?_setIfInBounds_ne hk]
theorem av {a:Act} {k:Nat} {v:Value} (h:a.eval (.tmp k)=v):a.tmps[k]?.getD undef=v:=by
 rw [<- Array.getD_eq_getD_getElem?];exact h
def Kh (ops:Array Oper) (n:Nat) (dst:Nat->Nat) (size:Nat):Bool :=
 (List.range n).all fun i=>match ops[i]? with
  | some o=>o.dst == some (dst i) && o.guard.isNone && decide (dst i<size)
  | none=>false
theorem tP {ops:Array Oper} {n:Nat} {dst:Nat->Nat} {size:Nat} (h:Kh ops n dst size=true):∀i,i<n->∃o,ops[i]?=some o/\o.dst=some (dst i)/\o.guard=none/\dst i<size:=fun i hi=>by
 unfold Kh at h
 have:=(List.all_eq_true.1 h) i (List.mem_range.2 hi)
 cases ho:ops[i]? with
 | none=>rw [ho] at this;cases this
 | some o =>
  rw [ho] at this;simp only [Bool.and_eq_true,beq_iff_eq,decide_eq_true_eq,Option.isNone_iff_eq_none] at this;exact ⟨o,rfl,this.1.1,this.1.2,this.2⟩
theorem aR {P:Program} {o:Oper} {a:Act} {w:World} {R:Act->World->Prop} {Q:Exit->Act->World->Prop} (h:∀K:Act->World->Prop,(∀a w,R a w->K a w)->o.wp P a w K Q):o.wp P a w R Q:=h R (fun _ _ h=>h)
theorem Fr.lit {l:List Value} {ds:List Deferred} {n lo:Nat} {a:Act} (hF:Fr ⟨l.toArray,ds⟩ (fun i=>lo+i) n a) (hlo:lo+n<=l.length) :
  ∃x:List Value,x.length=n/\a=⟨(l.take lo++x++l.drop (lo+n)).toArray,ds⟩/\∀i,i<n->a.eval (.tmp (lo+i))=x.getD i undef:=by
 obtain ⟨t,d⟩:=a;obtain ⟨h1,h2,h3⟩:=hF;have h1':d=ds:=h1;subst h1';have h2':t.size=l.length:=by simpa using h2
 refine ⟨(t.toList.drop lo).take n,by rw [List.length_take,List.length_drop,Array.length_toList];omega,?_,fun i hi=>?_⟩
 ·congr 1;apply Array.ext';apply List.ext_getElem?;intro k;have hx:((t.toList.drop lo).take n).length=n:=by rw [List.length_take,List.length_drop,Array.length_toList];omega
  have hlt:(l.take lo).length=lo:=by rw [List.length_take];omega
  have Ew:=h3 k;simp only [List.getElem?_toArray] at Ew;rw [Array.getElem?_toList];show t[k]?=(l.take lo++(t.toList.drop lo).take n++l.drop (lo+n))[k]?;rcases Nat.lt_or_ge k lo with hk|hk
  ·rw [List.append_assoc,List.getElem?_append_left (by omega),List.getElem?_take,if_pos hk];exact Ew fun i _=>by omega
  ·rcases Nat.lt_or_ge k (lo+n) with hk2|hk2
   ·rw [List.append_assoc,List.getElem?_append_right (by omega),List.getElem?_append_left (by omega),List.getElem?_take,if_pos (by omega),List.getElem?_drop,hlt,Array.getElem?_toList];congr 1;omega
   ·rw [List.getElem?_append_right (by rw [List.length_append];omega),List.getElem?_drop,List.length_append,hlt,hx,show lo+n+(k-(lo+n))=k by omega];exact Ew fun i _=>by omega
 ·show t.getD (lo+i) undef=_;rw [Array.getD_eq_getD_getElem?,List.getD_eq_getElem?_getD,List.getElem?_take,if_pos hi,List.getElem?_drop,Array.getElem?_toList]
section
variable {P:Program} {ops:Array Oper} {Q:Exit->Act->World->Prop} {id:Nat} {a0:Act} {w0:World}
def Ahead (ops:Array Oper) (a0:Act) (w0:World) (n:Nat) (dst:Nat->Nat) (G:Nat->Value->World->Prop) (L:Array Bool) (a:Act) (w:World):Prop :=
 (∀k,n<=k->L.getD k false=false)/\Fr a0 dst n a/\Below w0.heap.size w0 w/\∀i,i<n->L.getD i false=true->G i (a.eval (.tmp (dst i))) w
def Behind (P:Program) (ops:Array Oper) (Q:Exit->Act->World->Prop) (n:Nat) (L:Array Bool) (a:Act) (w:World):Prop :=
 ∃k,n<=k/\(∀i,i<k->L.getD i false=true)/\(∀i,k<=i->L.getD i false=false)/\wpList P ops Q (ops.toList.drop k) a w
theorem oJ {o:Oper} {i:Nat} (h:ops[i]?=some o):iw ops i=deps o:=by unfold iw;rw [h]
theorem xF {L:Array Bool} {i:Nat} (h:i ∈ Region.ready .any ops L):L.getD i true=false/\∃o,ops[i]?=some o/\∀j ∈ deps o,L.getD j false=true:=by
 obtain ⟨h1,o,ho,hd⟩:=mem_ready.1 h;refine ⟨h1,o,ho,fun j hj=>?_⟩;obtain ⟨e,he,rfl⟩:=List.mem_map.1 hj;obtain ⟨he1,he2⟩:=List.mem_filter.1 he;exact hd e (by simpa using he1) he2
theorem GQ {L:Array Bool} {i:Nat} {o:Oper} (ho:ops[i]?=some o) (h1:L.getD i true=false) (hd:∀j ∈ deps o,L.getD j false=true):i ∈ Region.ready .any ops L:=by
 refine mem_ready.2 ⟨h1,o,ho,fun e he hb=>hd _ ?_⟩;exact List.mem_map.2 ⟨e,List.mem_filter.2 ⟨by simpa using he,hb⟩,rfl⟩
theorem uE {L:Array Bool} {n:Nat} (hT:qc ops n=true) (hsz:L.size=ops.size) (hr:Region.ready .any ops L = []) (k:Nat) (hk:k<ops.size):L.getD k false=true:=by
 have hlow:∀i,i<ops.size->∀j ∈ iw ops i,j<i:=fun i hi j hj=>by
  unfold qc at hT;rw [Bool.and_eq_true,List.all_eq_true] at hT
  have:=hT.2 i (List.mem_range.2 hi)
  rw [Bool.and_eq_true,List.all_eq_true] at this;exact of_decide_eq_true (this.1 j hj)
 induction k using Nat.strongRecOn with
 | _ k ih =>
  cases hL:L.getD k false with
  | true=>rfl
  | false =>
   obtain ⟨o,ho⟩:∃o,ops[k]?=some o:=⟨_,Array.getElem?_eq_getElem hk⟩
   have hm:k ∈ Region.ready .any ops L:=by
    refine GQ ho ?_ fun j hj=>?_
    ·have:k<L.size:=by omega
     simp only [Array.getD,this] at hL ⊢;exact hL
    ·have hj':j ∈ iw ops k:=by rw [oJ ho];exact hj
     have:=hlow k hk j hj'
     exact ih j this (by omega)
   rw [hr] at hm;cases hm
theorem yF (n:Nat) (dst:Nat->Nat) (G:Nat->Value->World->Prop) (hm:P.follows .mixedOrders=true) (hT:qc ops n=true)
  (hinj:∀i j,i<n->j<n->dst i=dst j->i=j)
  (hdst:∀i,i<n->∃o,ops[i]?=some o/\o.dst=some (dst i)/\o.guard=none/\dst i<a0.tmps.size)
  (lC:∀i v w w',i<n->G i v w->Below w.heap.size w w'->G i v w')
  (hstep:∀i o a w,i<n->ops[i]?=some o->Fr a0 dst n a->Below w0.heap.size w0 w->(∀j ∈ deps o,G j (a.eval (.tmp (dst j))) w)->o.wp P a w (fun a' w'=>∃v,a'=a.put o.dst v/\Below w.heap.size w w'/\G i v w') Q)
  (fu:∀a w,Fr a0 dst n a->Below w0.heap.size w0 w->(∀i,i<n->G i (a.eval (.tmp (dst i))) w)->wpList P ops Q (ops.toList.drop n) a w) :
  (Code.region id ops true).wp P Q a0 w0:=by
 have fM:=hT;unfold qc at fM;rw [Bool.and_eq_true,List.all_eq_true,decide_eq_true_eq] at fM;obtain ⟨hn,fM⟩:=fM
 have hlow:∀i,i<ops.size->∀j ∈ iw ops i,j<i:=fun i hi j hj=>by
  have:=fM i (List.mem_range.2 hi)
  rw [Bool.and_eq_true,List.all_eq_true] at this;exact of_decide_eq_true (this.1 j hj)
 have hbig:∀(L:Array Bool) i,n<=i->i<ops.size->Closed ops L->(∀j ∈ iw ops i,L.getD j false=true)->∀j,j<i->L.getD j false=true:=fun L i hi hs hc hd j hj=>by
  have:=fM i (List.mem_range.2 hs)
  rw [Bool.and_eq_true,Bool.or_eq_true,decide_eq_true_eq] at this;rcases this.2 with h|h
  ·omega
  ·have hjm:j ∈ sK ops [i] i:=by simpa using (List.all_eq_true.1 h) j (List.mem_range.2 hj)
   rcases xH hc hd i [i] (fun m hm=>.inl (List.mem_singleton.1 hm)) j hjm with h|h
   ·omega
   ·exact h
 refine xE (fun L a w=>L.size=ops.size/\Closed ops L/\(Ahead ops a0 w0 n dst G L a w\/Behind P ops Q n L a w)) hm ?_ ?_ ?_
 ·rintro L i a w hi ⟨hsz,hc,zZ⟩;obtain ⟨qN,o,ho,hd⟩:=xF hi;obtain ⟨dW,iK⟩:=xG qN;have hd':∀j ∈ iw ops i,L.getD j false=true:=by rw [oJ ho];exact hd
  have hsz':(L.setIfInBounds i true).size=ops.size:=by rw [Array.size_setIfInBounds,hsz]
  have hc':Closed ops (L.setIfInBounds i true):=fun m hm j hj=>by
   rw [fN L i _ dW] at hm ⊢;split
   ·rfl
   ·by_cases he:m=i
    ·subst he;exact hd' j hj
    ·rw [if_neg he] at hm;exact hc m hm j hj
  have low:∀k,n<=k->(∀j,j<k->L.getD j false=true)->(∀j,k<=j->L.getD j false=false)->n<=i->i=k:=fun k hnk hk1 hk2 hni=>by
   have h1:=hbig L i hni (by omega) hc hd';rcases Nat.lt_trichotomy i k with h|h|h
   ·rw [hk1 i h] at iK;cases iK
   ·exact h
   ·have:=h1 k h;rw [hk2 k (Nat.le_refl _)] at this;cases this
  have tZ:∀k,k=i->n<=k->(∀j,j<k->L.getD j false=true)->(∀j,k<=j->L.getD j false=false)->wpList P ops Q (ops.toList.drop k) a w->wpOp P ops Q i (fun a w=>(L.setIfInBounds i true).size=ops.size/\Closed ops (L.setIfInBounds i true)/\(Ahead ops a0 w0 n dst G (L.setIfInBounds i true) a w\/Behind P ops Q n (L.setIfInBounds i true) a w)) a w:=by
   rintro k rfl hnk hk1 hk2 hwp;have hks:k<ops.size:=by omega
   have qM:ops.toList.drop k=o :: ops.toList.drop (k+1):=by
    rw [List.drop_eq_getElem_cons (by simpa using hks)];congr 1
    have:=Array.getElem?_eq_getElem hks
    rw [ho] at this;simpa using (Option.some.inj this).symm
   rw [qM] at hwp
   have up:∀a w,wpList P ops Q (ops.toList.drop (k+1)) a w->(L.setIfInBounds k true).size=ops.size/\Closed ops (L.setIfInBounds k true)/\(Ahead ops a0 w0 n dst G (L.setIfInBounds k true) a w\/Behind P ops Q n (L.setIfInBounds k true) a w):=fun a w h =>
    ⟨hsz',hc',.inr ⟨k+1,by omega,fun j hj=>by
     rw [fN L k _ dW];split
     ·rfl
     ·exact hk1 j (by omega),fun j hj=>by
     rw [fN L k _ dW,if_neg (by omega)];exact hk2 j (by omega),h⟩⟩
   unfold wpOp;rw [ho];unfold wpList at hwp;show ite _ _ _;split
   ·rename_i hw;rw [if_pos hw] at hwp;exact hwp.imp (Oper.wp_mono up) (fun h=>h)
   ·rename_i hw;rw [if_neg hw] at hwp;exact up _ _ hwp
  rcases zZ with ⟨hk,hF,hB,hG⟩|⟨k,hnk,hk1,hk2,hwp⟩
  ·by_cases hin:i<n
   ·obtain ⟨o',ho',ja,hog,hos⟩:=hdst i hin
    have:o'=o:=by rw [ho] at ho';exact (Option.some.inj ho').symm
    subst this;have hs:=hstep i o' a w hin ho hF hB (fun j hj=>hG j (by have:=hlow i (by omega) j (by rw [oJ ho];exact hj);omega) (hd j hj));unfold wpOp;rw [ho];show ite _ _ _;rw [if_pos (by simp [Region.wanted,hog])];refine .inl (Oper.wp_mono ?_ hs);rintro a' w' ⟨v,rfl,hBw,qB⟩;have rG:dst i<a.tmps.size:=by rw [hF.size];exact hos
    refine ⟨hsz',hc',.inl ⟨fun k hnk=>?_,by rw [ja];exact hF.put hin v,?_,fun j hj iD=>?_⟩⟩
    ·rw [fN L i _ dW,if_neg (by omega)];exact hk k hnk
    ·exact hB.trans (hBw.mono hB.size)
    ·rw [ja];by_cases he:j=i
     ·subst he;rw [uD v rG];exact qB
     ·rw [fN L i _ dW,if_neg he] at iD;rw [qg v (fun e=>he (hinj i j hin hj e).symm)];exact lC j _ w w' hj (hG j hj iD) hBw
   ·have h1:=hbig L i (by omega) (by omega) hc hd'
    have Aa:n=i:=by
     rcases Nat.lt_or_ge n i with h|h
     ·have:=h1 n h;rw [hk n (Nat.le_refl _)] at this;cases this
     ·omega
    refine tZ n Aa (Nat.le_refl _) (fun j hj=>h1 j (by omega)) hk (fu a w hF hB fun j hj=>hG j hj (h1 j (by omega)))
  ·rcases Nat.lt_or_ge i n with h|h
   ·rw [hk1 i (by omega)] at iK;cases iK
   ·exact tZ k (low k hnk hk1 hk2 h).symm hnk hk1 hk2 hwp
 ·rintro L a w hr ⟨hsz,hc,⟨hk,_⟩|⟨k,hnk,hk1,hk2,hwp⟩⟩
  ·have:=uE hT hsz hr n hn
   rw [hk n (Nat.le_refl _)] at this;cases this
  ·have:ops.size<=k:=by
    rcases Nat.lt_or_ge k ops.size with h|h
    ·have:=uE hT hsz hr k h
     rw [hk2 k (Nat.le_refl _)] at this;cases this
    ·exact h
   rw [List.drop_eq_nil_of_le (by simpa using this)] at hwp;exact hwp
 ·have hf:∀k,(Array.replicate ops.size false).getD k false=false:=fun k=>by
   simp [Array.getD]
  refine ⟨by simp,fun i hi=>?_,.inl ⟨fun k _=>hf k,⟨rfl,rfl,fun _ _=>rfl⟩,⟨rfl,rfl,rfl,Nat.le_refl _,fun _ _=>rfl⟩,fun i _ hL=>?_⟩⟩
  ·rw [hf] at hi;cases hi
  ·rw [hf] at hL;cases hL
end
end af
end Go.Proofs.YtegboefdolfdgaaGreatDoor
