/- Texts that the claim needs. -/
import Derived.Test.YtkflfohoinbenaaQTU9
import Derived.Deep.QuietTactic
import Derived.BigQuiet
namespace Go.Proofs.Ytkflfohoinbenaa
open Go.RowKit Lx Pz Rep Ty
set_option linter.unusedVariables false
namespace Ty
theorem DV.on {B r n:Nat} {xs:List Value} {vs:Value} {pr:Int} {u u':World} (h:DV B r n xs vs pr u) (hb:Below u.heap.size u u'):DV B r n xs vs pr u' :=
 ⟨(hb.block r (Array.getElem?_eq_some_iff.1 h.blk).1).trans h.blk,row_bel h.row hb,h.apart,h.few⟩
end Ty
set_option maxRecDepth 100000 in
set_option maxHeartbeats 16000000 in
theorem t_dGood {B r n:Nat} {xs:List Value} {vs:Value} {pr:Int}:∀(d:Nat) (w0:World) (t v:Value),DV B r n xs vs pr w0->TyV 0 d w0 t v->Calls Try.prog 39 #[.pointer (some ⟨r,0,none⟩),v] w0 fun e w'=>e=.returned (.bool (gdT n (d+1) t))/\Below w0.heap.size w0 w':=by
 intro d
 induction d using Nat.strongRecOn with
 | _ d ih =>
  intro w t v hD h
  obtain ⟨k,x,m,es,u,rfl,rfl,hr⟩:=h
  obtain ⟨oR,cR,rfl,hel⟩:=row_at hr
  obtain ⟨oN,cN,hvN⟩:=own_sl hD.row
  subst hvN
  obtain ⟨R,hR⟩:∃R,R=gdT n (d+1) (nd k x e0 m es [] 0):=⟨_,rfl⟩
  rw [<- hR]
  have hR':R=(ndOk n k x m es.length && es.all (gdT n d)):=by rw [hR];rfl
  clear hR
  obtain ⟨W,hW⟩:∃W,W=w.alloc (.cells #[.int .i64 k,.string x,.int .i64 m,.slice oR es.length cR] 34):=⟨_,rfl⟩
  have hbA:Below w.heap.size w W:=by rw [hW];exact new_on' _ _
  have BB0:Hid (Below w.heap.size w W):=hideR hbA
  have hX0:W.heap[w.heap.size]?=some (.cells #[.int .i64 k,.string x,.int .i64 m,.slice oR es.length cR] 34 (0,0)):=by rw [hW];exact heap_alloc_new w _
  have HX0:=hideR hX0
  have c0:=put_cell hX0 0 _ rfl
  have c1:=put_cell hX0 1 _ rfl
  have c2:=put_cell hX0 2 _ rfl
  have c3:=put_cell hX0 3 _ rfl
  have s0:=put_cell ((hD.on hbA).blk) 0 _ rfl
  have HEL:=hideR hel
  have HL:=hideR hr.1
  have HIH:Hid (∀d1,d=d1+1->∀(wr:World) (t v:Value),Below w.heap.size w wr->TyV 0 d1 wr t v->Calls Try.prog 39 #[.pointer (some ⟨r,0,none⟩),v] wr fun e w'=>e=.returned (.bool (gdT n d t))/\Below wr.heap.size wr w'):=hideR (fun d1 e wr t v hb h=>by subst e;exact ih d1 (by omega) wr t v (hD.on hb) h)
  have hx0:=str_nil x
  have hx1:(x.toList == ([]:List UInt8))=x.toList.isEmpty:=by cases x.toList<;>rfl
  have hx2:(x.toList != ([]:List UInt8)) = !x.toList.isEmpty:=by cases x.toList<;>rfl
  clear hr hel ih hD hbA hX0
  by_cases k1:k=1
  ·subst k1
   cases hX:decide (x=e0) with
   | false =>
    rw [hX] at hx0
    rw [hx0] at hx1 hx2
    have hN:ndOk n 1 x m es.length=false:=by unfold ndOk;simp [hX]
    have ST0:Hid (R=(false && es.all (gdT n d))):=hideR (by rw [hR',hN])
    clear hR' hN
    go_enter Try.func39,Try.ntmps39
    go_upto_region 1 with fail
    rw [<- hW]
    clear hW
    go_wp2_with fail
    go_loopw [5,6] (fun cc aa wr=>∃(ok:Bool) (i:Nat),cc=.bool ok/\aa=.int .i64 i/\i<=es.length/\Hid ((ok && (es.drop i).all (gdT n d))=R)/\Hid (Below w.heap.size w wr)/\Hid (wr.heap[w.heap.size]?=some (.cells #[.int .i64 1,.string x,.int .i64 m,.slice oR es.length cR] 34 (0,0)))) (fun _ aa _=>match aa with | .int _ i=>es.length-i.toNat|_=>0)
    case atStart=>exact ⟨false,0,rfl,rfl,Nat.zero_le _,hideR (by rw [ST0.out,List.drop_zero];try rfl),BB0,HX0⟩
    case round =>
     obtain ⟨ok,i,rfl,rfl,hi,HN,HB,HX⟩:=hrel
     clear ST0 BB0 HX0 c0 c1 c2 c3 s0
     have g3:=put_cell HX.out 3 _ rfl
     cases ok with
     | false =>
      have HS:Hid (false=R):=hideR (by rw [<- HN.out];rfl)
      clear HN
      by_cases hp:i<es.length
      ·have q1:decide ((i:Int)<(es.length:Int))=true:=decide_eq_true (by omega)
       go_wp2
       go_ret
       exact ⟨ret_bool HS.out,HB.out⟩
      ·have q1:decide ((i:Int)<(es.length:Int))=false:=decide_eq_false (by omega)
       go_wp2
       go_ret
       exact ⟨ret_bool HS.out,HB.out⟩
     | true =>
      by_cases hp:i<es.length
      ·have q1:decide ((i:Int)<(es.length:Int))=true:=decide_eq_true (by omega)
       obtain ⟨t1,ht1⟩:∃t1,es[i]?=some t1:=⟨_,List.getElem?_eq_getElem (by omega)⟩
       obtain ⟨b1,off,hoR,hC⟩:=HEL.out i t1 ht1
       subst hoR
       obtain ⟨d1,k1,x1,n1,u1,hd1,m0,m1,m2,m3,hV⟩:=ty_eltd hC
       have y0:=cell_on HB.out m0
       have y1:=cell_on HB.out m1
       have y2:=cell_on HB.out m2
       have y3:=cell_on HB.out m3
       have hw1:=wrapI (by omega:i<es.length) HL.out
       have HS:Hid ((gdT n d t1 && (es.drop (i+1)).all (gdT n d))=R):=hideR (by rw [<- HN.out,Bool.true_and,all_step ht1])
       have HIB:=hideR (HIH.out d1 hd1 wr t1 _ HB.out (hV.but (Abv.of HB.out)))
       generalize gdT n d t1=A at *
       clear hd1 hC ht1 HN m0 m1 m2 m3 hV
       go_wp2_with fail
       refine Calls.mono (show Calls _ _ _ _ _ from HIB.out) ?_
       rintro e w3 ⟨rfl,hb3⟩
       have HB3:=hideR (below_go HB.out hb3)
       have HX3:=hideR ((hb3.block _ (Array.getElem?_eq_some_iff.1 HX.out).1).trans HX.out)
       clear HIB hb3 g3 y0 y1 y2 y3 HX HB
       go_wp2
       go_roundw
       case rel=>exact ⟨A,i+1,rfl,by first|rfl|(congr 1),by omega,HS,HB3,HX3⟩
       case measure=>simp;omega
      ·have q1:decide ((i:Int)<(es.length:Int))=false:=decide_eq_false (by omega)
       have HS:Hid (true=R):=hideR (by rw [<- HN.out,List.drop_eq_nil_of_le (by omega)];rfl)
       clear HN
       go_wp2
       go_ret
       exact ⟨ret_bool HS.out,HB.out⟩
   | true =>
    rw [hX] at hx0
    rw [hx0] at hx1 hx2
    cases hM:(m == 0) with
    | false =>
     have hN:ndOk n 1 x m es.length=false:=by unfold ndOk;simp [hX,hM]
     have ST0:Hid (R=(false && es.all (gdT n d))):=hideR (by rw [hR',hN])
     clear hR' hN
     go_enter Try.func39,Try.ntmps39
     go_upto_region 1 with fail
     rw [<- hW]
     clear hW
     go_wp2_with fail
     go_loopw [5,6] (fun cc aa wr=>∃(ok:Bool) (i:Nat),cc=.bool ok/\aa=.int .i64 i/\i<=es.length/\Hid ((ok && (es.drop i).all (gdT n d))=R)/\Hid (Below w.heap.size w wr)/\Hid (wr.heap[w.heap.size]?=some (.cells #[.int .i64 1,.string x,.int .i64 m,.slice oR es.length cR] 34 (0,0)))) (fun _ aa _=>match aa with | .int _ i=>es.length-i.toNat|_=>0)
     case atStart=>exact ⟨false,0,rfl,rfl,Nat.zero_le _,hideR (by rw [ST0.out,List.drop_zero];try rfl),BB0,HX0⟩
     case round =>
      obtain ⟨ok,i,rfl,rfl,hi,HN,HB,HX⟩:=hrel
      clear ST0 BB0 HX0 c0 c1 c2 c3 s0
      have g3:=put_cell HX.out 3 _ rfl
      cases ok with
      | false =>
       have HS:Hid (false=R):=hideR (by rw [<- HN.out];rfl)
       clear HN
       by_cases hp:i<es.length
       ·have q1:decide ((i:Int)<(es.length:Int))=true:=decide_eq_true (by omega)
        go_wp2
        go_ret
        exact ⟨ret_bool HS.out,HB.out⟩
       ·have q1:decide ((i:Int)<(es.length:Int))=false:=decide_eq_false (by omega)
        go_wp2
        go_ret
        exact ⟨ret_bool HS.out,HB.out⟩
      | true =>
       by_cases hp:i<es.length
       ·have q1:decide ((i:Int)<(es.length:Int))=true:=decide_eq_true (by omega)
        obtain ⟨t1,ht1⟩:∃t1,es[i]?=some t1:=⟨_,List.getElem?_eq_getElem (by omega)⟩
        obtain ⟨b1,off,hoR,hC⟩:=HEL.out i t1 ht1
        subst hoR
        obtain ⟨d1,k1,x1,n1,u1,hd1,m0,m1,m2,m3,hV⟩:=ty_eltd hC
        have y0:=cell_on HB.out m0
        have y1:=cell_on HB.out m1
        have y2:=cell_on HB.out m2
        have y3:=cell_on HB.out m3
        have hw1:=wrapI (by omega:i<es.length) HL.out
        have HS:Hid ((gdT n d t1 && (es.drop (i+1)).all (gdT n d))=R):=hideR (by rw [<- HN.out,Bool.true_and,all_step ht1])
        have HIB:=hideR (HIH.out d1 hd1 wr t1 _ HB.out (hV.but (Abv.of HB.out)))
        generalize gdT n d t1=A at *
        clear hd1 hC ht1 HN m0 m1 m2 m3 hV
        go_wp2_with fail
        refine Calls.mono (show Calls _ _ _ _ _ from HIB.out) ?_
        rintro e w3 ⟨rfl,hb3⟩
        have HB3:=hideR (below_go HB.out hb3)
        have HX3:=hideR ((hb3.block _ (Array.getElem?_eq_some_iff.1 HX.out).1).trans HX.out)
        clear HIB hb3 g3 y0 y1 y2 y3 HX HB
        go_wp2
        go_roundw
        case rel=>exact ⟨A,i+1,rfl,by first|rfl|(congr 1),by omega,HS,HB3,HX3⟩
        case measure=>simp;omega
       ·have q1:decide ((i:Int)<(es.length:Int))=false:=decide_eq_false (by omega)
        have HS:Hid (true=R):=hideR (by rw [<- HN.out,List.drop_eq_nil_of_le (by omega)];rfl)
        clear HN
        go_wp2
        go_ret
        exact ⟨ret_bool HS.out,HB.out⟩
    | true =>
     cases hL:(es.length == 0) with
     | false =>
      have hl0:((es.length:Int) == 0)=false:=by simp at hL ⊢;exact hL
      have hN:ndOk n 1 x m es.length=false:=by unfold ndOk;rw [hX,hM,hL];rfl
      have ST0:Hid (R=(false && es.all (gdT n d))):=hideR (by rw [hR',hN])
      clear hR' hN
      go_enter Try.func39,Try.ntmps39
      go_upto_region 1 with fail
      rw [<- hW]
      clear hW
      go_wp2_with fail
      go_loopw [5,6] (fun cc aa wr=>∃(ok:Bool) (i:Nat),cc=.bool ok/\aa=.int .i64 i/\i<=es.length/\Hid ((ok && (es.drop i).all (gdT n d))=R)/\Hid (Below w.heap.size w wr)/\Hid (wr.heap[w.heap.size]?=some (.cells #[.int .i64 1,.string x,.int .i64 m,.slice oR es.length cR] 34 (0,0)))) (fun _ aa _=>match aa with | .int _ i=>es.length-i.toNat|_=>0)
      case atStart=>exact ⟨false,0,rfl,rfl,Nat.zero_le _,hideR (by rw [ST0.out,List.drop_zero];try rfl),BB0,HX0⟩
      case round =>
       obtain ⟨ok,i,rfl,rfl,hi,HN,HB,HX⟩:=hrel
       clear ST0 BB0 HX0 c0 c1 c2 c3 s0
       have g3:=put_cell HX.out 3 _ rfl
       cases ok with
       | false =>
        have HS:Hid (false=R):=hideR (by rw [<- HN.out];rfl)
        clear HN
        by_cases hp:i<es.length
        ·have q1:decide ((i:Int)<(es.length:Int))=true:=decide_eq_true (by omega)
         go_wp2
         go_ret
         exact ⟨ret_bool HS.out,HB.out⟩
        ·have q1:decide ((i:Int)<(es.length:Int))=false:=decide_eq_false (by omega)
         go_wp2
         go_ret
         exact ⟨ret_bool HS.out,HB.out⟩
       | true =>
        by_cases hp:i<es.length
        ·have q1:decide ((i:Int)<(es.length:Int))=true:=decide_eq_true (by omega)
         obtain ⟨t1,ht1⟩:∃t1,es[i]?=some t1:=⟨_,List.getElem?_eq_getElem (by omega)⟩
         obtain ⟨b1,off,hoR,hC⟩:=HEL.out i t1 ht1
         subst hoR
         obtain ⟨d1,k1,x1,n1,u1,hd1,m0,m1,m2,m3,hV⟩:=ty_eltd hC
         have y0:=cell_on HB.out m0
         have y1:=cell_on HB.out m1
         have y2:=cell_on HB.out m2
         have y3:=cell_on HB.out m3
         have hw1:=wrapI (by omega:i<es.length) HL.out
         have HS:Hid ((gdT n d t1 && (es.drop (i+1)).all (gdT n d))=R):=hideR (by rw [<- HN.out,Bool.true_and,all_step ht1])
         have HIB:=hideR (HIH.out d1 hd1 wr t1 _ HB.out (hV.but (Abv.of HB.out)))
         generalize gdT n d t1=A at *
         clear hd1 hC ht1 HN m0 m1 m2 m3 hV
         go_wp2_with fail
         refine Calls.mono (show Calls _ _ _ _ _ from HIB.out) ?_
         rintro e w3 ⟨rfl,hb3⟩
         have HB3:=hideR (below_go HB.out hb3)
         have HX3:=hideR ((hb3.block _ (Array.getElem?_eq_some_iff.1 HX.out).1).trans HX.out)
         clear HIB hb3 g3 y0 y1 y2 y3 HX HB
         go_wp2
         go_roundw
         case rel=>exact ⟨A,i+1,rfl,by first|rfl|(congr 1),by omega,HS,HB3,HX3⟩
         case measure=>simp;omega
        ·have q1:decide ((i:Int)<(es.length:Int))=false:=decide_eq_false (by omega)
         have HS:Hid (true=R):=hideR (by rw [<- HN.out,List.drop_eq_nil_of_le (by omega)];rfl)
         clear HN
         go_wp2
         go_ret
         exact ⟨ret_bool HS.out,HB.out⟩
     | true =>
      have hl0:((es.length:Int) == 0)=true:=by simp at hL ⊢;exact hL
      have hN:ndOk n 1 x m es.length=true:=by unfold ndOk;rw [hX,hM,hL];rfl
      have ST0:Hid (R=(true && es.all (gdT n d))):=hideR (by rw [hR',hN])
      clear hR' hN
      go_enter Try.func39,Try.ntmps39
      go_upto_region 1 with fail
      rw [<- hW]
      clear hW
      go_wp2_with fail
      go_loopw [5,6] (fun cc aa wr=>∃(ok:Bool) (i:Nat),cc=.bool ok/\aa=.int .i64 i/\i<=es.length/\Hid ((ok && (es.drop i).all (gdT n d))=R)/\Hid (Below w.heap.size w wr)/\Hid (wr.heap[w.heap.size]?=some (.cells #[.int .i64 1,.string x,.int .i64 m,.slice oR es.length cR] 34 (0,0)))) (fun _ aa _=>match aa with | .int _ i=>es.length-i.toNat|_=>0)
      case atStart=>exact ⟨true,0,rfl,rfl,Nat.zero_le _,hideR (by rw [ST0.out,List.drop_zero];try rfl),BB0,HX0⟩
      case round =>
       obtain ⟨ok,i,rfl,rfl,hi,HN,HB,HX⟩:=hrel
       clear ST0 BB0 HX0 c0 c1 c2 c3 s0
       have g3:=put_cell HX.out 3 _ rfl
       cases ok with
       | false =>
        have HS:Hid (false=R):=hideR (by rw [<- HN.out];rfl)
        clear HN
        by_cases hp:i<es.length
        ·have q1:decide ((i:Int)<(es.length:Int))=true:=decide_eq_true (by omega)
         go_wp2
         go_ret
         exact ⟨ret_bool HS.out,HB.out⟩
        ·have q1:decide ((i:Int)<(es.length:Int))=false:=decide_eq_false (by omega)
         go_wp2
         go_ret
         exact ⟨ret_bool HS.out,HB.out⟩
       | true =>
        by_cases hp:i<es.length
        ·have q1:decide ((i:Int)<(es.length:Int))=true:=decide_eq_true (by omega)
         obtain ⟨t1,ht1⟩:∃t1,es[i]?=some t1:=⟨_,List.getElem?_eq_getElem (by omega)⟩
         obtain ⟨b1,off,hoR,hC⟩:=HEL.out i t1 ht1
         subst hoR
         obtain ⟨d1,k1,x1,n1,u1,hd1,m0,m1,m2,m3,hV⟩:=ty_eltd hC
         have y0:=cell_on HB.out m0
         have y1:=cell_on HB.out m1
         have y2:=cell_on HB.out m2
         have y3:=cell_on HB.out m3
         have hw1:=wrapI (by omega:i<es.length) HL.out
         have HS:Hid ((gdT n d t1 && (es.drop (i+1)).all (gdT n d))=R):=hideR (by rw [<- HN.out,Bool.true_and,all_step ht1])
         have HIB:=hideR (HIH.out d1 hd1 wr t1 _ HB.out (hV.but (Abv.of HB.out)))
         generalize gdT n d t1=A at *
         clear hd1 hC ht1 HN m0 m1 m2 m3 hV
         go_wp2_with fail
         refine Calls.mono (show Calls _ _ _ _ _ from HIB.out) ?_
         rintro e w3 ⟨rfl,hb3⟩
         have HB3:=hideR (below_go HB.out hb3)
         have HX3:=hideR ((hb3.block _ (Array.getElem?_eq_some_iff.1 HX.out).1).trans HX.out)
         clear HIB hb3 g3 y0 y1 y2 y3 HX HB
         go_wp2
         go_roundw
         case rel=>exact ⟨A,i+1,rfl,by first|rfl|(congr 1),by omega,HS,HB3,HX3⟩
         case measure=>simp;omega
        ·have q1:decide ((i:Int)<(es.length:Int))=false:=decide_eq_false (by omega)
         have HS:Hid (true=R):=hideR (by rw [<- HN.out,List.drop_eq_nil_of_le (by omega)];rfl)
         clear HN
         go_wp2
         go_ret
         exact ⟨ret_bool HS.out,HB.out⟩
  have n1:(k == 1)=false:=by simpa using k1
  by_cases k3:k=3
  ·subst k3
   cases hX:decide (x=e0) with
   | false =>
    rw [hX] at hx0
    rw [hx0] at hx1 hx2
    have hN:ndOk n 3 x m es.length=false:=by unfold ndOk;simp [hX]
    have ST0:Hid (R=(false && es.all (gdT n d))):=hideR (by rw [hR',hN])
    clear hR' hN
    go_enter Try.func39,Try.ntmps39
    go_upto_region 1 with fail
    rw [<- hW]
    clear hW
    go_wp2_with fail
    go_loopw [5,6] (fun cc aa wr=>∃(ok:Bool) (i:Nat),cc=.bool ok/\aa=.int .i64 i/\i<=es.length/\Hid ((ok && (es.drop i).all (gdT n d))=R)/\Hid (Below w.heap.size w wr)/\Hid (wr.heap[w.heap.size]?=some (.cells #[.int .i64 3,.string x,.int .i64 m,.slice oR es.length cR] 34 (0,0)))) (fun _ aa _=>match aa with | .int _ i=>es.length-i.toNat|_=>0)
    case atStart=>exact ⟨false,0,rfl,rfl,Nat.zero_le _,hideR (by rw [ST0.out,List.drop_zero];try rfl),BB0,HX0⟩
    case round =>
     obtain ⟨ok,i,rfl,rfl,hi,HN,HB,HX⟩:=hrel
     clear ST0 BB0 HX0 c0 c1 c2 c3 s0
     have g3:=put_cell HX.out 3 _ rfl
     cases ok with
     | false =>
      have HS:Hid (false=R):=hideR (by rw [<- HN.out];rfl)
      clear HN
      by_cases hp:i<es.length
      ·have q1:decide ((i:Int)<(es.length:Int))=true:=decide_eq_true (by omega)
       go_wp2
       go_ret
       exact ⟨ret_bool HS.out,HB.out⟩
      ·have q1:decide ((i:Int)<(es.length:Int))=false:=decide_eq_false (by omega)
       go_wp2
       go_ret
       exact ⟨ret_bool HS.out,HB.out⟩
     | true =>
      by_cases hp:i<es.length
      ·have q1:decide ((i:Int)<(es.length:Int))=true:=decide_eq_true (by omega)
       obtain ⟨t1,ht1⟩:∃t1,es[i]?=some t1:=⟨_,List.getElem?_eq_getElem (by omega)⟩
       obtain ⟨b1,off,hoR,hC⟩:=HEL.out i t1 ht1
       subst hoR
       obtain ⟨d1,k1,x1,n1,u1,hd1,m0,m1,m2,m3,hV⟩:=ty_eltd hC
       have y0:=cell_on HB.out m0
       have y1:=cell_on HB.out m1
       have y2:=cell_on HB.out m2
       have y3:=cell_on HB.out m3
       have hw1:=wrapI (by omega:i<es.length) HL.out
       have HS:Hid ((gdT n d t1 && (es.drop (i+1)).all (gdT n d))=R):=hideR (by rw [<- HN.out,Bool.true_and,all_step ht1])
       have HIB:=hideR (HIH.out d1 hd1 wr t1 _ HB.out (hV.but (Abv.of HB.out)))
       generalize gdT n d t1=A at *
       clear hd1 hC ht1 HN m0 m1 m2 m3 hV
       go_wp2_with fail
       refine Calls.mono (show Calls _ _ _ _ _ from HIB.out) ?_
       rintro e w3 ⟨rfl,hb3⟩
       have HB3:=hideR (below_go HB.out hb3)
       have HX3:=hideR ((hb3.block _ (Array.getElem?_eq_some_iff.1 HX.out).1).trans HX.out)
       clear HIB hb3 g3 y0 y1 y2 y3 HX HB
       go_wp2
       go_roundw
       case rel=>exact ⟨A,i+1,rfl,by first|rfl|(congr 1),by omega,HS,HB3,HX3⟩
       case measure=>simp;omega
      ·have q1:decide ((i:Int)<(es.length:Int))=false:=decide_eq_false (by omega)
       have HS:Hid (true=R):=hideR (by rw [<- HN.out,List.drop_eq_nil_of_le (by omega)];rfl)
       clear HN
       go_wp2
       go_ret
       exact ⟨ret_bool HS.out,HB.out⟩
   | true =>
    rw [hX] at hx0
    rw [hx0] at hx1 hx2
    cases hM:(m == 0) with
    | false =>
     have hN:ndOk n 3 x m es.length=false:=by unfold ndOk;simp [hX,hM]
     have ST0:Hid (R=(false && es.all (gdT n d))):=hideR (by rw [hR',hN])
     clear hR' hN
     go_enter Try.func39,Try.ntmps39
     go_upto_region 1 with fail
     rw [<- hW]
     clear hW
     go_wp2_with fail
     go_loopw [5,6] (fun cc aa wr=>∃(ok:Bool) (i:Nat),cc=.bool ok/\aa=.int .i64 i/\i<=es.length/\Hid ((ok && (es.drop i).all (gdT n d))=R)/\Hid (Below w.heap.size w wr)/\Hid (wr.heap[w.heap.size]?=some (.cells #[.int .i64 3,.string x,.int .i64 m,.slice oR es.length cR] 34 (0,0)))) (fun _ aa _=>match aa with | .int _ i=>es.length-i.toNat|_=>0)
     case atStart=>exact ⟨false,0,rfl,rfl,Nat.zero_le _,hideR (by rw [ST0.out,List.drop_zero];try rfl),BB0,HX0⟩
     case round =>
      obtain ⟨ok,i,rfl,rfl,hi,HN,HB,HX⟩:=hrel
      clear ST0 BB0 HX0 c0 c1 c2 c3 s0
      have g3:=put_cell HX.out 3 _ rfl
      cases ok with
      | false =>
       have HS:Hid (false=R):=hideR (by rw [<- HN.out];rfl)
       clear HN
       by_cases hp:i<es.length
       ·have q1:decide ((i:Int)<(es.length:Int))=true:=decide_eq_true (by omega)
        go_wp2
        go_ret
        exact ⟨ret_bool HS.out,HB.out⟩
       ·have q1:decide ((i:Int)<(es.length:Int))=false:=decide_eq_false (by omega)
        go_wp2
        go_ret
        exact ⟨ret_bool HS.out,HB.out⟩
      | true =>
       by_cases hp:i<es.length
       ·have q1:decide ((i:Int)<(es.length:Int))=true:=decide_eq_true (by omega)
        obtain ⟨t1,ht1⟩:∃t1,es[i]?=some t1:=⟨_,List.getElem?_eq_getElem (by omega)⟩
        obtain ⟨b1,off,hoR,hC⟩:=HEL.out i t1 ht1
        subst hoR
        obtain ⟨d1,k1,x1,n1,u1,hd1,m0,m1,m2,m3,hV⟩:=ty_eltd hC
        have y0:=cell_on HB.out m0
        have y1:=cell_on HB.out m1
        have y2:=cell_on HB.out m2
        have y3:=cell_on HB.out m3
        have hw1:=wrapI (by omega:i<es.length) HL.out
        have HS:Hid ((gdT n d t1 && (es.drop (i+1)).all (gdT n d))=R):=hideR (by rw [<- HN.out,Bool.true_and,all_step ht1])
        have HIB:=hideR (HIH.out d1 hd1 wr t1 _ HB.out (hV.but (Abv.of HB.out)))
        generalize gdT n d t1=A at *
        clear hd1 hC ht1 HN m0 m1 m2 m3 hV
        go_wp2_with fail
        refine Calls.mono (show Calls _ _ _ _ _ from HIB.out) ?_
        rintro e w3 ⟨rfl,hb3⟩
        have HB3:=hideR (below_go HB.out hb3)
        have HX3:=hideR ((hb3.block _ (Array.getElem?_eq_some_iff.1 HX.out).1).trans HX.out)
        clear HIB hb3 g3 y0 y1 y2 y3 HX HB
        go_wp2
        go_roundw
        case rel=>exact ⟨A,i+1,rfl,by first|rfl|(congr 1),by omega,HS,HB3,HX3⟩
        case measure=>simp;omega
       ·have q1:decide ((i:Int)<(es.length:Int))=false:=decide_eq_false (by omega)
        have HS:Hid (true=R):=hideR (by rw [<- HN.out,List.drop_eq_nil_of_le (by omega)];rfl)
        clear HN
        go_wp2
        go_ret
        exact ⟨ret_bool HS.out,HB.out⟩
    | true =>
     cases hL:(es.length == 2) with
     | false =>
      have hl0:((es.length:Int) == 2)=false:=by simp at hL ⊢;omega
      have hN:ndOk n 3 x m es.length=false:=by unfold ndOk;rw [hX,hM,hL];rfl
      have ST0:Hid (R=(false && es.all (gdT n d))):=hideR (by rw [hR',hN])
      clear hR' hN
      go_enter Try.func39,Try.ntmps39
      go_upto_region 1 with fail
      rw [<- hW]
      clear hW
      go_wp2_with fail
      go_loopw [5,6] (fun cc aa wr=>∃(ok:Bool) (i:Nat),cc=.bool ok/\aa=.int .i64 i/\i<=es.length/\Hid ((ok && (es.drop i).all (gdT n d))=R)/\Hid (Below w.heap.size w wr)/\Hid (wr.heap[w.heap.size]?=some (.cells #[.int .i64 3,.string x,.int .i64 m,.slice oR es.length cR] 34 (0,0)))) (fun _ aa _=>match aa with | .int _ i=>es.length-i.toNat|_=>0)
      case atStart=>exact ⟨false,0,rfl,rfl,Nat.zero_le _,hideR (by rw [ST0.out,List.drop_zero];try rfl),BB0,HX0⟩
      case round =>
       obtain ⟨ok,i,rfl,rfl,hi,HN,HB,HX⟩:=hrel
       clear ST0 BB0 HX0 c0 c1 c2 c3 s0
       have g3:=put_cell HX.out 3 _ rfl
       cases ok with
       | false =>
        have HS:Hid (false=R):=hideR (by rw [<- HN.out];rfl)
        clear HN
        by_cases hp:i<es.length
        ·have q1:decide ((i:Int)<(es.length:Int))=true:=decide_eq_true (by omega)
         go_wp2
         go_ret
         exact ⟨ret_bool HS.out,HB.out⟩
        ·have q1:decide ((i:Int)<(es.length:Int))=false:=decide_eq_false (by omega)
         go_wp2
         go_ret
         exact ⟨ret_bool HS.out,HB.out⟩
       | true =>
        by_cases hp:i<es.length
        ·have q1:decide ((i:Int)<(es.length:Int))=true:=decide_eq_true (by omega)
         obtain ⟨t1,ht1⟩:∃t1,es[i]?=some t1:=⟨_,List.getElem?_eq_getElem (by omega)⟩
         obtain ⟨b1,off,hoR,hC⟩:=HEL.out i t1 ht1
         subst hoR
         obtain ⟨d1,k1,x1,n1,u1,hd1,m0,m1,m2,m3,hV⟩:=ty_eltd hC
         have y0:=cell_on HB.out m0
         have y1:=cell_on HB.out m1
         have y2:=cell_on HB.out m2
         have y3:=cell_on HB.out m3
         have hw1:=wrapI (by omega:i<es.length) HL.out
         have HS:Hid ((gdT n d t1 && (es.drop (i+1)).all (gdT n d))=R):=hideR (by rw [<- HN.out,Bool.true_and,all_step ht1])
         have HIB:=hideR (HIH.out d1 hd1 wr t1 _ HB.out (hV.but (Abv.of HB.out)))
         generalize gdT n d t1=A at *
         clear hd1 hC ht1 HN m0 m1 m2 m3 hV
         go_wp2_with fail
         refine Calls.mono (show Calls _ _ _ _ _ from HIB.out) ?_
         rintro e w3 ⟨rfl,hb3⟩
         have HB3:=hideR (below_go HB.out hb3)
         have HX3:=hideR ((hb3.block _ (Array.getElem?_eq_some_iff.1 HX.out).1).trans HX.out)
         clear HIB hb3 g3 y0 y1 y2 y3 HX HB
         go_wp2
         go_roundw
         case rel=>exact ⟨A,i+1,rfl,by first|rfl|(congr 1),by omega,HS,HB3,HX3⟩
         case measure=>simp;omega
        ·have q1:decide ((i:Int)<(es.length:Int))=false:=decide_eq_false (by omega)
         have HS:Hid (true=R):=hideR (by rw [<- HN.out,List.drop_eq_nil_of_le (by omega)];rfl)
         clear HN
         go_wp2
         go_ret
         exact ⟨ret_bool HS.out,HB.out⟩
     | true =>
      have hl0:((es.length:Int) == 2)=true:=by simp at hL ⊢;omega
      have hN:ndOk n 3 x m es.length=true:=by unfold ndOk;rw [hX,hM,hL];rfl
      have ST0:Hid (R=(true && es.all (gdT n d))):=hideR (by rw [hR',hN])
      clear hR' hN
      go_enter Try.func39,Try.ntmps39
      go_upto_region 1 with fail
      rw [<- hW]
      clear hW
      go_wp2_with fail
      go_loopw [5,6] (fun cc aa wr=>∃(ok:Bool) (i:Nat),cc=.bool ok/\aa=.int .i64 i/\i<=es.length/\Hid ((ok && (es.drop i).all (gdT n d))=R)/\Hid (Below w.heap.size w wr)/\Hid (wr.heap[w.heap.size]?=some (.cells #[.int .i64 3,.string x,.int .i64 m,.slice oR es.length cR] 34 (0,0)))) (fun _ aa _=>match aa with | .int _ i=>es.length-i.toNat|_=>0)
      case atStart=>exact ⟨true,0,rfl,rfl,Nat.zero_le _,hideR (by rw [ST0.out,List.drop_zero];try rfl),BB0,HX0⟩
      case round =>
       obtain ⟨ok,i,rfl,rfl,hi,HN,HB,HX⟩:=hrel
       clear ST0 BB0 HX0 c0 c1 c2 c3 s0
       have g3:=put_cell HX.out 3 _ rfl
       cases ok with
       | false =>
        have HS:Hid (false=R):=hideR (by rw [<- HN.out];rfl)
        clear HN
        by_cases hp:i<es.length
        ·have q1:decide ((i:Int)<(es.length:Int))=true:=decide_eq_true (by omega)
         go_wp2
         go_ret
         exact ⟨ret_bool HS.out,HB.out⟩
        ·have q1:decide ((i:Int)<(es.length:Int))=false:=decide_eq_false (by omega)
         go_wp2
         go_ret
         exact ⟨ret_bool HS.out,HB.out⟩
       | true =>
        by_cases hp:i<es.length
        ·have q1:decide ((i:Int)<(es.length:Int))=true:=decide_eq_true (by omega)
         obtain ⟨t1,ht1⟩:∃t1,es[i]?=some t1:=⟨_,List.getElem?_eq_getElem (by omega)⟩
         obtain ⟨b1,off,hoR,hC⟩:=HEL.out i t1 ht1
         subst hoR
         obtain ⟨d1,k1,x1,n1,u1,hd1,m0,m1,m2,m3,hV⟩:=ty_eltd hC
         have y0:=cell_on HB.out m0
         have y1:=cell_on HB.out m1
         have y2:=cell_on HB.out m2
         have y3:=cell_on HB.out m3
         have hw1:=wrapI (by omega:i<es.length) HL.out
         have HS:Hid ((gdT n d t1 && (es.drop (i+1)).all (gdT n d))=R):=hideR (by rw [<- HN.out,Bool.true_and,all_step ht1])
         have HIB:=hideR (HIH.out d1 hd1 wr t1 _ HB.out (hV.but (Abv.of HB.out)))
         generalize gdT n d t1=A at *
         clear hd1 hC ht1 HN m0 m1 m2 m3 hV
         go_wp2_with fail
         refine Calls.mono (show Calls _ _ _ _ _ from HIB.out) ?_
         rintro e w3 ⟨rfl,hb3⟩
         have HB3:=hideR (below_go HB.out hb3)
         have HX3:=hideR ((hb3.block _ (Array.getElem?_eq_some_iff.1 HX.out).1).trans HX.out)
         clear HIB hb3 g3 y0 y1 y2 y3 HX HB
         go_wp2
         go_roundw
         case rel=>exact ⟨A,i+1,rfl,by first|rfl|(congr 1),by omega,HS,HB3,HX3⟩
         case measure=>simp;omega
        ·have q1:decide ((i:Int)<(es.length:Int))=false:=decide_eq_false (by omega)
         have HS:Hid (true=R):=hideR (by rw [<- HN.out,List.drop_eq_nil_of_le (by omega)];rfl)
         clear HN
         go_wp2
         go_ret
         exact ⟨ret_bool HS.out,HB.out⟩
  have n3:(k == 3)=false:=by simpa using k3
  by_cases k4:k=4
  ·subst k4
   cases hX:decide (x=e0) with
   | true =>
    rw [hX] at hx0
    rw [hx0] at hx1 hx2
    have hN:ndOk n 4 x m es.length=false:=by unfold ndOk;simp [hX]
    have ST0:Hid (R=(false && es.all (gdT n d))):=hideR (by rw [hR',hN])
    clear hR' hN
    go_enter Try.func39,Try.ntmps39
    go_upto_region 1 with fail
    rw [<- hW]
    clear hW
    go_wp2_with fail
    go_loopw [5,6] (fun cc aa wr=>∃(ok:Bool) (i:Nat),cc=.bool ok/\aa=.int .i64 i/\i<=es.length/\Hid ((ok && (es.drop i).all (gdT n d))=R)/\Hid (Below w.heap.size w wr)/\Hid (wr.heap[w.heap.size]?=some (.cells #[.int .i64 4,.string x,.int .i64 m,.slice oR es.length cR] 34 (0,0)))) (fun _ aa _=>match aa with | .int _ i=>es.length-i.toNat|_=>0)
    case atStart=>exact ⟨false,0,rfl,rfl,Nat.zero_le _,hideR (by rw [ST0.out,List.drop_zero];try rfl),BB0,HX0⟩
    case round =>
     obtain ⟨ok,i,rfl,rfl,hi,HN,HB,HX⟩:=hrel
     clear ST0 BB0 HX0 c0 c1 c2 c3 s0
     have g3:=put_cell HX.out 3 _ rfl
     cases ok with
     | false =>
      have HS:Hid (false=R):=hideR (by rw [<- HN.out];rfl)
      clear HN
      by_cases hp:i<es.length
      ·have q1:decide ((i:Int)<(es.length:Int))=true:=decide_eq_true (by omega)
       go_wp2
       go_ret
       exact ⟨ret_bool HS.out,HB.out⟩
      ·have q1:decide ((i:Int)<(es.length:Int))=false:=decide_eq_false (by omega)
       go_wp2
       go_ret
       exact ⟨ret_bool HS.out,HB.out⟩
     | true =>
      by_cases hp:i<es.length
      ·have q1:decide ((i:Int)<(es.length:Int))=true:=decide_eq_true (by omega)
       obtain ⟨t1,ht1⟩:∃t1,es[i]?=some t1:=⟨_,List.getElem?_eq_getElem (by omega)⟩
       obtain ⟨b1,off,hoR,hC⟩:=HEL.out i t1 ht1
       subst hoR
       obtain ⟨d1,k1,x1,n1,u1,hd1,m0,m1,m2,m3,hV⟩:=ty_eltd hC
       have y0:=cell_on HB.out m0
       have y1:=cell_on HB.out m1
       have y2:=cell_on HB.out m2
       have y3:=cell_on HB.out m3
       have hw1:=wrapI (by omega:i<es.length) HL.out
       have HS:Hid ((gdT n d t1 && (es.drop (i+1)).all (gdT n d))=R):=hideR (by rw [<- HN.out,Bool.true_and,all_step ht1])
       have HIB:=hideR (HIH.out d1 hd1 wr t1 _ HB.out (hV.but (Abv.of HB.out)))
       generalize gdT n d t1=A at *
       clear hd1 hC ht1 HN m0 m1 m2 m3 hV
       go_wp2_with fail
       refine Calls.mono (show Calls _ _ _ _ _ from HIB.out) ?_
       rintro e w3 ⟨rfl,hb3⟩
       have HB3:=hideR (below_go HB.out hb3)
       have HX3:=hideR ((hb3.block _ (Array.getElem?_eq_some_iff.1 HX.out).1).trans HX.out)
       clear HIB hb3 g3 y0 y1 y2 y3 HX HB
       go_wp2
       go_roundw
       case rel=>exact ⟨A,i+1,rfl,by first|rfl|(congr 1),by omega,HS,HB3,HX3⟩
       case measure=>simp;omega
      ·have q1:decide ((i:Int)<(es.length:Int))=false:=decide_eq_false (by omega)
       have HS:Hid (true=R):=hideR (by rw [<- HN.out,List.drop_eq_nil_of_le (by omega)];rfl)
       clear HN
       go_wp2
       go_ret
       exact ⟨ret_bool HS.out,HB.out⟩
   | false =>
    rw [hX] at hx0
    rw [hx0] at hx1 hx2
    cases hM:(m == 0) with
    | false =>
     have hN:ndOk n 4 x m es.length=false:=by unfold ndOk;simp [hX,hM]
     have ST0:Hid (R=(false && es.all (gdT n d))):=hideR (by rw [hR',hN])
     clear hR' hN
     go_enter Try.func39,Try.ntmps39
     go_upto_region 1 with fail
     rw [<- hW]
     clear hW
     go_wp2_with fail
     go_loopw [5,6] (fun cc aa wr=>∃(ok:Bool) (i:Nat),cc=.bool ok/\aa=.int .i64 i/\i<=es.length/\Hid ((ok && (es.drop i).all (gdT n d))=R)/\Hid (Below w.heap.size w wr)/\Hid (wr.heap[w.heap.size]?=some (.cells #[.int .i64 4,.string x,.int .i64 m,.slice oR es.length cR] 34 (0,0)))) (fun _ aa _=>match aa with | .int _ i=>es.length-i.toNat|_=>0)
     case atStart=>exact ⟨false,0,rfl,rfl,Nat.zero_le _,hideR (by rw [ST0.out,List.drop_zero];try rfl),BB0,HX0⟩
     case round =>
      obtain ⟨ok,i,rfl,rfl,hi,HN,HB,HX⟩:=hrel
      clear ST0 BB0 HX0 c0 c1 c2 c3 s0
      have g3:=put_cell HX.out 3 _ rfl
      cases ok with
      | false =>
       have HS:Hid (false=R):=hideR (by rw [<- HN.out];rfl)
       clear HN
       by_cases hp:i<es.length
       ·have q1:decide ((i:Int)<(es.length:Int))=true:=decide_eq_true (by omega)
        go_wp2
        go_ret
        exact ⟨ret_bool HS.out,HB.out⟩
       ·have q1:decide ((i:Int)<(es.length:Int))=false:=decide_eq_false (by omega)
        go_wp2
        go_ret
        exact ⟨ret_bool HS.out,HB.out⟩
      | true =>
       by_cases hp:i<es.length
       ·have q1:decide ((i:Int)<(es.length:Int))=true:=decide_eq_true (by omega)
        obtain ⟨t1,ht1⟩:∃t1,es[i]?=some t1:=⟨_,List.getElem?_eq_getElem (by omega)⟩
        obtain ⟨b1,off,hoR,hC⟩:=HEL.out i t1 ht1
        subst hoR
        obtain ⟨d1,k1,x1,n1,u1,hd1,m0,m1,m2,m3,hV⟩:=ty_eltd hC
        have y0:=cell_on HB.out m0
        have y1:=cell_on HB.out m1
        have y2:=cell_on HB.out m2
        have y3:=cell_on HB.out m3
        have hw1:=wrapI (by omega:i<es.length) HL.out
        have HS:Hid ((gdT n d t1 && (es.drop (i+1)).all (gdT n d))=R):=hideR (by rw [<- HN.out,Bool.true_and,all_step ht1])
        have HIB:=hideR (HIH.out d1 hd1 wr t1 _ HB.out (hV.but (Abv.of HB.out)))
        generalize gdT n d t1=A at *
        clear hd1 hC ht1 HN m0 m1 m2 m3 hV
        go_wp2_with fail
        refine Calls.mono (show Calls _ _ _ _ _ from HIB.out) ?_
        rintro e w3 ⟨rfl,hb3⟩
        have HB3:=hideR (below_go HB.out hb3)
        have HX3:=hideR ((hb3.block _ (Array.getElem?_eq_some_iff.1 HX.out).1).trans HX.out)
        clear HIB hb3 g3 y0 y1 y2 y3 HX HB
        go_wp2
        go_roundw
        case rel=>exact ⟨A,i+1,rfl,by first|rfl|(congr 1),by omega,HS,HB3,HX3⟩
        case measure=>simp;omega
       ·have q1:decide ((i:Int)<(es.length:Int))=false:=decide_eq_false (by omega)
        have HS:Hid (true=R):=hideR (by rw [<- HN.out,List.drop_eq_nil_of_le (by omega)];rfl)
        clear HN
        go_wp2
        go_ret
        exact ⟨ret_bool HS.out,HB.out⟩
    | true =>
     have hN:ndOk n 4 x m es.length=true:=by unfold ndOk;simp [hX,hM]
     have ST0:Hid (R=(true && es.all (gdT n d))):=hideR (by rw [hR',hN])
     clear hR' hN
     go_enter Try.func39,Try.ntmps39
     go_upto_region 1 with fail
     rw [<- hW]
     clear hW
     go_wp2_with fail
     go_loopw [5,6] (fun cc aa wr=>∃(ok:Bool) (i:Nat),cc=.bool ok/\aa=.int .i64 i/\i<=es.length/\Hid ((ok && (es.drop i).all (gdT n d))=R)/\Hid (Below w.heap.size w wr)/\Hid (wr.heap[w.heap.size]?=some (.cells #[.int .i64 4,.string x,.int .i64 m,.slice oR es.length cR] 34 (0,0)))) (fun _ aa _=>match aa with | .int _ i=>es.length-i.toNat|_=>0)
     case atStart=>exact ⟨true,0,rfl,rfl,Nat.zero_le _,hideR (by rw [ST0.out,List.drop_zero];try rfl),BB0,HX0⟩
     case round =>
      obtain ⟨ok,i,rfl,rfl,hi,HN,HB,HX⟩:=hrel
      clear ST0 BB0 HX0 c0 c1 c2 c3 s0
      have g3:=put_cell HX.out 3 _ rfl
      cases ok with
      | false =>
       have HS:Hid (false=R):=hideR (by rw [<- HN.out];rfl)
       clear HN
       by_cases hp:i<es.length
       ·have q1:decide ((i:Int)<(es.length:Int))=true:=decide_eq_true (by omega)
        go_wp2
        go_ret
        exact ⟨ret_bool HS.out,HB.out⟩
       ·have q1:decide ((i:Int)<(es.length:Int))=false:=decide_eq_false (by omega)
        go_wp2
        go_ret
        exact ⟨ret_bool HS.out,HB.out⟩
      | true =>
       by_cases hp:i<es.length
       ·have q1:decide ((i:Int)<(es.length:Int))=true:=decide_eq_true (by omega)
        obtain ⟨t1,ht1⟩:∃t1,es[i]?=some t1:=⟨_,List.getElem?_eq_getElem (by omega)⟩
        obtain ⟨b1,off,hoR,hC⟩:=HEL.out i t1 ht1
        subst hoR
        obtain ⟨d1,k1,x1,n1,u1,hd1,m0,m1,m2,m3,hV⟩:=ty_eltd hC
        have y0:=cell_on HB.out m0
        have y1:=cell_on HB.out m1
        have y2:=cell_on HB.out m2
        have y3:=cell_on HB.out m3
        have hw1:=wrapI (by omega:i<es.length) HL.out
        have HS:Hid ((gdT n d t1 && (es.drop (i+1)).all (gdT n d))=R):=hideR (by rw [<- HN.out,Bool.true_and,all_step ht1])
        have HIB:=hideR (HIH.out d1 hd1 wr t1 _ HB.out (hV.but (Abv.of HB.out)))
        generalize gdT n d t1=A at *
        clear hd1 hC ht1 HN m0 m1 m2 m3 hV
        go_wp2_with fail
        refine Calls.mono (show Calls _ _ _ _ _ from HIB.out) ?_
        rintro e w3 ⟨rfl,hb3⟩
        have HB3:=hideR (below_go HB.out hb3)
        have HX3:=hideR ((hb3.block _ (Array.getElem?_eq_some_iff.1 HX.out).1).trans HX.out)
        clear HIB hb3 g3 y0 y1 y2 y3 HX HB
        go_wp2
        go_roundw
        case rel=>exact ⟨A,i+1,rfl,by first|rfl|(congr 1),by omega,HS,HB3,HX3⟩
        case measure=>simp;omega
       ·have q1:decide ((i:Int)<(es.length:Int))=false:=decide_eq_false (by omega)
        have HS:Hid (true=R):=hideR (by rw [<- HN.out,List.drop_eq_nil_of_le (by omega)];rfl)
        clear HN
        go_wp2
        go_ret
        exact ⟨ret_bool HS.out,HB.out⟩
  have n4:(k == 4)=false:=by simpa using k4
  by_cases k2:k=2
  ·subst k2
   cases hX:decide (x=e0) with
   | false =>
    rw [hX] at hx0
    rw [hx0] at hx1 hx2
    have hN:ndOk n 2 x m es.length=false:=by unfold ndOk;simp [hX]
    have ST0:Hid (R=(false && es.all (gdT n d))):=hideR (by rw [hR',hN])
    clear hR' hN
    go_enter Try.func39,Try.ntmps39
    go_upto_region 1 with fail
    rw [<- hW]
    clear hW
    go_wp2
    go_quiet (fail)
    go_wp2_with fail
    go_loopw [5,6] (fun cc aa wr=>∃(ok:Bool) (i:Nat),cc=.bool ok/\aa=.int .i64 i/\i<=es.length/\Hid ((ok && (es.drop i).all (gdT n d))=R)/\Hid (Below w.heap.size w wr)/\Hid (wr.heap[w.heap.size]?=some (.cells #[.int .i64 2,.string x,.int .i64 m,.slice oR es.length cR] 34 (0,0)))) (fun _ aa _=>match aa with | .int _ i=>es.length-i.toNat|_=>0)
    case atStart=>exact ⟨false,0,rfl,rfl,Nat.zero_le _,hideR (by rw [ST0.out,List.drop_zero];try rfl),hideR (BB0.out.trans ((below_drewN' W _).mono BB0.out.size)),HX0⟩
    case round =>
     obtain ⟨ok,i,rfl,rfl,hi,HN,HB,HX⟩:=hrel
     clear ST0 BB0 HX0 c0 c1 c2 c3 s0
     have g3:=put_cell HX.out 3 _ rfl
     cases ok with
     | false =>
      have HS:Hid (false=R):=hideR (by rw [<- HN.out];rfl)
      clear HN
      by_cases hp:i<es.length
      ·have q1:decide ((i:Int)<(es.length:Int))=true:=decide_eq_true (by omega)
       go_wp2
       go_ret
       exact ⟨ret_bool HS.out,HB.out⟩
      ·have q1:decide ((i:Int)<(es.length:Int))=false:=decide_eq_false (by omega)
       go_wp2
       go_ret
       exact ⟨ret_bool HS.out,HB.out⟩
     | true =>
      by_cases hp:i<es.length
      ·have q1:decide ((i:Int)<(es.length:Int))=true:=decide_eq_true (by omega)
       obtain ⟨t1,ht1⟩:∃t1,es[i]?=some t1:=⟨_,List.getElem?_eq_getElem (by omega)⟩
       obtain ⟨b1,off,hoR,hC⟩:=HEL.out i t1 ht1
       subst hoR
       obtain ⟨d1,k1,x1,n1,u1,hd1,m0,m1,m2,m3,hV⟩:=ty_eltd hC
       have y0:=cell_on HB.out m0
       have y1:=cell_on HB.out m1
       have y2:=cell_on HB.out m2
       have y3:=cell_on HB.out m3
       have hw1:=wrapI (by omega:i<es.length) HL.out
       have HS:Hid ((gdT n d t1 && (es.drop (i+1)).all (gdT n d))=R):=hideR (by rw [<- HN.out,Bool.true_and,all_step ht1])
       have HIB:=hideR (HIH.out d1 hd1 wr t1 _ HB.out (hV.but (Abv.of HB.out)))
       generalize gdT n d t1=A at *
       clear hd1 hC ht1 HN m0 m1 m2 m3 hV
       go_wp2_with fail
       refine Calls.mono (show Calls _ _ _ _ _ from HIB.out) ?_
       rintro e w3 ⟨rfl,hb3⟩
       have HB3:=hideR (below_go HB.out hb3)
       have HX3:=hideR ((hb3.block _ (Array.getElem?_eq_some_iff.1 HX.out).1).trans HX.out)
       clear HIB hb3 g3 y0 y1 y2 y3 HX HB
       go_wp2
       go_roundw
       case rel=>exact ⟨A,i+1,rfl,by first|rfl|(congr 1),by omega,HS,HB3,HX3⟩
       case measure=>simp;omega
      ·have q1:decide ((i:Int)<(es.length:Int))=false:=decide_eq_false (by omega)
       have HS:Hid (true=R):=hideR (by rw [<- HN.out,List.drop_eq_nil_of_le (by omega)];rfl)
       clear HN
       go_wp2
       go_ret
       exact ⟨ret_bool HS.out,HB.out⟩
   | true =>
    rw [hX] at hx0
    rw [hx0] at hx1 hx2
    cases hM:decide (1<=m) with
    | false =>
     have hN:ndOk n 2 x m es.length=false:=by unfold ndOk;rw [hX,hM];rfl
     have ST0:Hid (R=(false && es.all (gdT n d))):=hideR (by rw [hR',hN])
     clear hR' hN
     go_enter Try.func39,Try.ntmps39
     go_upto_region 1 with fail
     rw [<- hW]
     clear hW
     go_wp2
     go_quiet (fail)
     go_wp2_with fail
     go_loopw [5,6] (fun cc aa wr=>∃(ok:Bool) (i:Nat),cc=.bool ok/\aa=.int .i64 i/\i<=es.length/\Hid ((ok && (es.drop i).all (gdT n d))=R)/\Hid (Below w.heap.size w wr)/\Hid (wr.heap[w.heap.size]?=some (.cells #[.int .i64 2,.string x,.int .i64 m,.slice oR es.length cR] 34 (0,0)))) (fun _ aa _=>match aa with | .int _ i=>es.length-i.toNat|_=>0)
     case atStart=>exact ⟨false,0,rfl,rfl,Nat.zero_le _,hideR (by rw [ST0.out,List.drop_zero];try rfl),hideR (BB0.out.trans ((below_drewN' W _).mono BB0.out.size)),HX0⟩
     case round =>
      obtain ⟨ok,i,rfl,rfl,hi,HN,HB,HX⟩:=hrel
      clear ST0 BB0 HX0 c0 c1 c2 c3 s0
      have g3:=put_cell HX.out 3 _ rfl
      cases ok with
      | false =>
       have HS:Hid (false=R):=hideR (by rw [<- HN.out];rfl)
       clear HN
       by_cases hp:i<es.length
       ·have q1:decide ((i:Int)<(es.length:Int))=true:=decide_eq_true (by omega)
        go_wp2
        go_ret
        exact ⟨ret_bool HS.out,HB.out⟩
       ·have q1:decide ((i:Int)<(es.length:Int))=false:=decide_eq_false (by omega)
        go_wp2
        go_ret
        exact ⟨ret_bool HS.out,HB.out⟩
      | true =>
       by_cases hp:i<es.length
       ·have q1:decide ((i:Int)<(es.length:Int))=true:=decide_eq_true (by omega)
        obtain ⟨t1,ht1⟩:∃t1,es[i]?=some t1:=⟨_,List.getElem?_eq_getElem (by omega)⟩
        obtain ⟨b1,off,hoR,hC⟩:=HEL.out i t1 ht1
        subst hoR
        obtain ⟨d1,k1,x1,n1,u1,hd1,m0,m1,m2,m3,hV⟩:=ty_eltd hC
        have y0:=cell_on HB.out m0
        have y1:=cell_on HB.out m1
        have y2:=cell_on HB.out m2
        have y3:=cell_on HB.out m3
        have hw1:=wrapI (by omega:i<es.length) HL.out
        have HS:Hid ((gdT n d t1 && (es.drop (i+1)).all (gdT n d))=R):=hideR (by rw [<- HN.out,Bool.true_and,all_step ht1])
        have HIB:=hideR (HIH.out d1 hd1 wr t1 _ HB.out (hV.but (Abv.of HB.out)))
        generalize gdT n d t1=A at *
        clear hd1 hC ht1 HN m0 m1 m2 m3 hV
        go_wp2_with fail
        refine Calls.mono (show Calls _ _ _ _ _ from HIB.out) ?_
        rintro e w3 ⟨rfl,hb3⟩
        have HB3:=hideR (below_go HB.out hb3)
        have HX3:=hideR ((hb3.block _ (Array.getElem?_eq_some_iff.1 HX.out).1).trans HX.out)
        clear HIB hb3 g3 y0 y1 y2 y3 HX HB
        go_wp2
        go_roundw
        case rel=>exact ⟨A,i+1,rfl,by first|rfl|(congr 1),by omega,HS,HB3,HX3⟩
        case measure=>simp;omega
       ·have q1:decide ((i:Int)<(es.length:Int))=false:=decide_eq_false (by omega)
        have HS:Hid (true=R):=hideR (by rw [<- HN.out,List.drop_eq_nil_of_le (by omega)];rfl)
        clear HN
        go_wp2
        go_ret
        exact ⟨ret_bool HS.out,HB.out⟩
    | true =>
     cases hK:decide (m<=(n:Int)) with
     | false =>
      have hN:ndOk n 2 x m es.length=false:=by unfold ndOk;rw [hX,hM,hK];rfl
      have ST0:Hid (R=(false && es.all (gdT n d))):=hideR (by rw [hR',hN])
      clear hR' hN
      go_enter Try.func39,Try.ntmps39
      go_upto_region 1 with fail
      rw [<- hW]
      clear hW
      go_wp2
      go_quiet (fail)
      go_wp2_with fail
      go_loopw [5,6] (fun cc aa wr=>∃(ok:Bool) (i:Nat),cc=.bool ok/\aa=.int .i64 i/\i<=es.length/\Hid ((ok && (es.drop i).all (gdT n d))=R)/\Hid (Below w.heap.size w wr)/\Hid (wr.heap[w.heap.size]?=some (.cells #[.int .i64 2,.string x,.int .i64 m,.slice oR es.length cR] 34 (0,0)))) (fun _ aa _=>match aa with | .int _ i=>es.length-i.toNat|_=>0)
      case atStart=>exact ⟨false,0,rfl,rfl,Nat.zero_le _,hideR (by rw [ST0.out,List.drop_zero];try rfl),hideR (BB0.out.trans ((below_drewN' W _).mono BB0.out.size)),HX0⟩
      case round =>
       obtain ⟨ok,i,rfl,rfl,hi,HN,HB,HX⟩:=hrel
       clear ST0 BB0 HX0 c0 c1 c2 c3 s0
       have g3:=put_cell HX.out 3 _ rfl
       cases ok with
       | false =>
        have HS:Hid (false=R):=hideR (by rw [<- HN.out];rfl)
        clear HN
        by_cases hp:i<es.length
        ·have q1:decide ((i:Int)<(es.length:Int))=true:=decide_eq_true (by omega)
         go_wp2
         go_ret
         exact ⟨ret_bool HS.out,HB.out⟩
        ·have q1:decide ((i:Int)<(es.length:Int))=false:=decide_eq_false (by omega)
         go_wp2
         go_ret
         exact ⟨ret_bool HS.out,HB.out⟩
       | true =>
        by_cases hp:i<es.length
        ·have q1:decide ((i:Int)<(es.length:Int))=true:=decide_eq_true (by omega)
         obtain ⟨t1,ht1⟩:∃t1,es[i]?=some t1:=⟨_,List.getElem?_eq_getElem (by omega)⟩
         obtain ⟨b1,off,hoR,hC⟩:=HEL.out i t1 ht1
         subst hoR
         obtain ⟨d1,k1,x1,n1,u1,hd1,m0,m1,m2,m3,hV⟩:=ty_eltd hC
         have y0:=cell_on HB.out m0
         have y1:=cell_on HB.out m1
         have y2:=cell_on HB.out m2
         have y3:=cell_on HB.out m3
         have hw1:=wrapI (by omega:i<es.length) HL.out
         have HS:Hid ((gdT n d t1 && (es.drop (i+1)).all (gdT n d))=R):=hideR (by rw [<- HN.out,Bool.true_and,all_step ht1])
         have HIB:=hideR (HIH.out d1 hd1 wr t1 _ HB.out (hV.but (Abv.of HB.out)))
         generalize gdT n d t1=A at *
         clear hd1 hC ht1 HN m0 m1 m2 m3 hV
         go_wp2_with fail
         refine Calls.mono (show Calls _ _ _ _ _ from HIB.out) ?_
         rintro e w3 ⟨rfl,hb3⟩
         have HB3:=hideR (below_go HB.out hb3)
         have HX3:=hideR ((hb3.block _ (Array.getElem?_eq_some_iff.1 HX.out).1).trans HX.out)
         clear HIB hb3 g3 y0 y1 y2 y3 HX HB
         go_wp2
         go_roundw
         case rel=>exact ⟨A,i+1,rfl,by first|rfl|(congr 1),by omega,HS,HB3,HX3⟩
         case measure=>simp;omega
        ·have q1:decide ((i:Int)<(es.length:Int))=false:=decide_eq_false (by omega)
         have HS:Hid (true=R):=hideR (by rw [<- HN.out,List.drop_eq_nil_of_le (by omega)];rfl)
         clear HN
         go_wp2
         go_ret
         exact ⟨ret_bool HS.out,HB.out⟩
     | true =>
      cases hL:(es.length == 0) with
      | false =>
       have hl0:((es.length:Int) == 0)=false:=by simp at hL ⊢;exact hL
       have hN:ndOk n 2 x m es.length=false:=by unfold ndOk;rw [hX,hM,hK,hL];rfl
       have ST0:Hid (R=(false && es.all (gdT n d))):=hideR (by rw [hR',hN])
       clear hR' hN
       go_enter Try.func39,Try.ntmps39
       go_upto_region 1 with fail
       rw [<- hW]
       clear hW
       go_wp2
       go_quiet (fail)
       go_wp2_with fail
       go_loopw [5,6] (fun cc aa wr=>∃(ok:Bool) (i:Nat),cc=.bool ok/\aa=.int .i64 i/\i<=es.length/\Hid ((ok && (es.drop i).all (gdT n d))=R)/\Hid (Below w.heap.size w wr)/\Hid (wr.heap[w.heap.size]?=some (.cells #[.int .i64 2,.string x,.int .i64 m,.slice oR es.length cR] 34 (0,0)))) (fun _ aa _=>match aa with | .int _ i=>es.length-i.toNat|_=>0)
       case atStart=>exact ⟨false,0,rfl,rfl,Nat.zero_le _,hideR (by rw [ST0.out,List.drop_zero];try rfl),hideR (BB0.out.trans ((below_drewN' W _).mono BB0.out.size)),HX0⟩
       case round =>
        obtain ⟨ok,i,rfl,rfl,hi,HN,HB,HX⟩:=hrel
        clear ST0 BB0 HX0 c0 c1 c2 c3 s0
        have g3:=put_cell HX.out 3 _ rfl
        cases ok with
        | false =>
         have HS:Hid (false=R):=hideR (by rw [<- HN.out];rfl)
         clear HN
         by_cases hp:i<es.length
         ·have q1:decide ((i:Int)<(es.length:Int))=true:=decide_eq_true (by omega)
          go_wp2
          go_ret
          exact ⟨ret_bool HS.out,HB.out⟩
         ·have q1:decide ((i:Int)<(es.length:Int))=false:=decide_eq_false (by omega)
          go_wp2
          go_ret
          exact ⟨ret_bool HS.out,HB.out⟩
        | true =>
         by_cases hp:i<es.length
         ·have q1:decide ((i:Int)<(es.length:Int))=true:=decide_eq_true (by omega)
          obtain ⟨t1,ht1⟩:∃t1,es[i]?=some t1:=⟨_,List.getElem?_eq_getElem (by omega)⟩
          obtain ⟨b1,off,hoR,hC⟩:=HEL.out i t1 ht1
          subst hoR
          obtain ⟨d1,k1,x1,n1,u1,hd1,m0,m1,m2,m3,hV⟩:=ty_eltd hC
          have y0:=cell_on HB.out m0
          have y1:=cell_on HB.out m1
          have y2:=cell_on HB.out m2
          have y3:=cell_on HB.out m3
          have hw1:=wrapI (by omega:i<es.length) HL.out
          have HS:Hid ((gdT n d t1 && (es.drop (i+1)).all (gdT n d))=R):=hideR (by rw [<- HN.out,Bool.true_and,all_step ht1])
          have HIB:=hideR (HIH.out d1 hd1 wr t1 _ HB.out (hV.but (Abv.of HB.out)))
          generalize gdT n d t1=A at *
          clear hd1 hC ht1 HN m0 m1 m2 m3 hV
          go_wp2_with fail
          refine Calls.mono (show Calls _ _ _ _ _ from HIB.out) ?_
          rintro e w3 ⟨rfl,hb3⟩
          have HB3:=hideR (below_go HB.out hb3)
          have HX3:=hideR ((hb3.block _ (Array.getElem?_eq_some_iff.1 HX.out).1).trans HX.out)
          clear HIB hb3 g3 y0 y1 y2 y3 HX HB
          go_wp2
          go_roundw
          case rel=>exact ⟨A,i+1,rfl,by first|rfl|(congr 1),by omega,HS,HB3,HX3⟩
          case measure=>simp;omega
         ·have q1:decide ((i:Int)<(es.length:Int))=false:=decide_eq_false (by omega)
          have HS:Hid (true=R):=hideR (by rw [<- HN.out,List.drop_eq_nil_of_le (by omega)];rfl)
          clear HN
          go_wp2
          go_ret
          exact ⟨ret_bool HS.out,HB.out⟩
      | true =>
       have hl0:((es.length:Int) == 0)=true:=by simp at hL ⊢;exact hL
       have hN:ndOk n 2 x m es.length=true:=by unfold ndOk;rw [hX,hM,hK,hL];rfl
       have ST0:Hid (R=(true && es.all (gdT n d))):=hideR (by rw [hR',hN])
       clear hR' hN
       go_enter Try.func39,Try.ntmps39
       go_upto_region 1 with fail
       rw [<- hW]
       clear hW
       go_wp2
       go_quiet (fail)
       go_wp2_with fail
       go_loopw [5,6] (fun cc aa wr=>∃(ok:Bool) (i:Nat),cc=.bool ok/\aa=.int .i64 i/\i<=es.length/\Hid ((ok && (es.drop i).all (gdT n d))=R)/\Hid (Below w.heap.size w wr)/\Hid (wr.heap[w.heap.size]?=some (.cells #[.int .i64 2,.string x,.int .i64 m,.slice oR es.length cR] 34 (0,0)))) (fun _ aa _=>match aa with | .int _ i=>es.length-i.toNat|_=>0)
       case atStart=>exact ⟨true,0,rfl,rfl,Nat.zero_le _,hideR (by rw [ST0.out,List.drop_zero];try rfl),hideR (BB0.out.trans ((below_drewN' W _).mono BB0.out.size)),HX0⟩
       case round =>
        obtain ⟨ok,i,rfl,rfl,hi,HN,HB,HX⟩:=hrel
        clear ST0 BB0 HX0 c0 c1 c2 c3 s0
        have g3:=put_cell HX.out 3 _ rfl
        cases ok with
        | false =>
         have HS:Hid (false=R):=hideR (by rw [<- HN.out];rfl)
         clear HN
         by_cases hp:i<es.length
         ·have q1:decide ((i:Int)<(es.length:Int))=true:=decide_eq_true (by omega)
          go_wp2
          go_ret
          exact ⟨ret_bool HS.out,HB.out⟩
         ·have q1:decide ((i:Int)<(es.length:Int))=false:=decide_eq_false (by omega)
          go_wp2
          go_ret
          exact ⟨ret_bool HS.out,HB.out⟩
        | true =>
         by_cases hp:i<es.length
         ·have q1:decide ((i:Int)<(es.length:Int))=true:=decide_eq_true (by omega)
          obtain ⟨t1,ht1⟩:∃t1,es[i]?=some t1:=⟨_,List.getElem?_eq_getElem (by omega)⟩
          obtain ⟨b1,off,hoR,hC⟩:=HEL.out i t1 ht1
          subst hoR
          obtain ⟨d1,k1,x1,n1,u1,hd1,m0,m1,m2,m3,hV⟩:=ty_eltd hC
          have y0:=cell_on HB.out m0
          have y1:=cell_on HB.out m1
          have y2:=cell_on HB.out m2
          have y3:=cell_on HB.out m3
          have hw1:=wrapI (by omega:i<es.length) HL.out
          have HS:Hid ((gdT n d t1 && (es.drop (i+1)).all (gdT n d))=R):=hideR (by rw [<- HN.out,Bool.true_and,all_step ht1])
          have HIB:=hideR (HIH.out d1 hd1 wr t1 _ HB.out (hV.but (Abv.of HB.out)))
          generalize gdT n d t1=A at *
          clear hd1 hC ht1 HN m0 m1 m2 m3 hV
          go_wp2_with fail
          refine Calls.mono (show Calls _ _ _ _ _ from HIB.out) ?_
          rintro e w3 ⟨rfl,hb3⟩
          have HB3:=hideR (below_go HB.out hb3)
          have HX3:=hideR ((hb3.block _ (Array.getElem?_eq_some_iff.1 HX.out).1).trans HX.out)
          clear HIB hb3 g3 y0 y1 y2 y3 HX HB
          go_wp2
          go_roundw
          case rel=>exact ⟨A,i+1,rfl,by first|rfl|(congr 1),by omega,HS,HB3,HX3⟩
          case measure=>simp;omega
         ·have q1:decide ((i:Int)<(es.length:Int))=false:=decide_eq_false (by omega)
          have HS:Hid (true=R):=hideR (by rw [<- HN.out,List.drop_eq_nil_of_le (by omega)];rfl)
          clear HN
          go_wp2
          go_ret
          exact ⟨ret_bool HS.out,HB.out⟩
  have n2:(k == 2)=false:=by simpa using k2
  have hN:ndOk n k x m es.length=false:=by unfold ndOk;simp [k1,k2,k3,k4]
  have ST0:Hid (R=(false && es.all (gdT n d))):=hideR (by rw [hR',hN])
  clear hR' hN
  go_enter Try.func39,Try.ntmps39
  go_upto_region 1 with fail
  rw [<- hW]
  clear hW
  go_wp2_with fail
  go_loopw [5,6] (fun cc aa wr=>∃(ok:Bool) (i:Nat),cc=.bool ok/\aa=.int .i64 i/\i<=es.length/\Hid ((ok && (es.drop i).all (gdT n d))=R)/\Hid (Below w.heap.size w wr)/\Hid (wr.heap[w.heap.size]?=some (.cells #[.int .i64 k,.string x,.int .i64 m,.slice oR es.length cR] 34 (0,0)))) (fun _ aa _=>match aa with | .int _ i=>es.length-i.toNat|_=>0)
  case atStart=>exact ⟨false,0,rfl,rfl,Nat.zero_le _,hideR (by rw [ST0.out,List.drop_zero];try rfl),BB0,HX0⟩
  case round =>
   obtain ⟨ok,i,rfl,rfl,hi,HN,HB,HX⟩:=hrel
   clear ST0 BB0 HX0 c0 c1 c2 c3 s0
   have g3:=put_cell HX.out 3 _ rfl
   cases ok with
   | false =>
    have HS:Hid (false=R):=hideR (by rw [<- HN.out];rfl)
    clear HN
    by_cases hp:i<es.length
    ·have q1:decide ((i:Int)<(es.length:Int))=true:=decide_eq_true (by omega)
     go_wp2
     go_ret
     exact ⟨ret_bool HS.out,HB.out⟩
    ·have q1:decide ((i:Int)<(es.length:Int))=false:=decide_eq_false (by omega)
     go_wp2
     go_ret
     exact ⟨ret_bool HS.out,HB.out⟩
   | true =>
    by_cases hp:i<es.length
    ·have q1:decide ((i:Int)<(es.length:Int))=true:=decide_eq_true (by omega)
     obtain ⟨t1,ht1⟩:∃t1,es[i]?=some t1:=⟨_,List.getElem?_eq_getElem (by omega)⟩
     obtain ⟨b1,off,hoR,hC⟩:=HEL.out i t1 ht1
     subst hoR
     obtain ⟨d1,k1,x1,n1,u1,hd1,m0,m1,m2,m3,hV⟩:=ty_eltd hC
     have y0:=cell_on HB.out m0
     have y1:=cell_on HB.out m1
     have y2:=cell_on HB.out m2
     have y3:=cell_on HB.out m3
     have hw1:=wrapI (by omega:i<es.length) HL.out
     have HS:Hid ((gdT n d t1 && (es.drop (i+1)).all (gdT n d))=R):=hideR (by rw [<- HN.out,Bool.true_and,all_step ht1])
     have HIB:=hideR (HIH.out d1 hd1 wr t1 _ HB.out (hV.but (Abv.of HB.out)))
     generalize gdT n d t1=A at *
     clear hd1 hC ht1 HN m0 m1 m2 m3 hV
     go_wp2_with fail
     refine Calls.mono (show Calls _ _ _ _ _ from HIB.out) ?_
     rintro e w3 ⟨rfl,hb3⟩
     have HB3:=hideR (below_go HB.out hb3)
     have HX3:=hideR ((hb3.block _ (Array.getElem?_eq_some_iff.1 HX.out).1).trans HX.out)
     clear HIB hb3 g3 y0 y1 y2 y3 HX HB
     go_wp2
     go_roundw
     case rel=>exact ⟨A,i+1,rfl,by first|rfl|(congr 1),by omega,HS,HB3,HX3⟩
     case measure=>simp;omega
    ·have q1:decide ((i:Int)<(es.length:Int))=false:=decide_eq_false (by omega)
     have HS:Hid (true=R):=hideR (by rw [<- HN.out,List.drop_eq_nil_of_le (by omega)];rfl)
     clear HN
     go_wp2
     go_ret
     exact ⟨ret_bool HS.out,HB.out⟩
end Go.Proofs.Ytkflfohoinbenaa
