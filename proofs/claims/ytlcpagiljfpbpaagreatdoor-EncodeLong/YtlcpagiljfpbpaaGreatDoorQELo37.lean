/- Texts that the claim needs. -/
import Derived.Test.YtlcpagiljfpbpaaGreatDoorQELo34
import Derived.Test.YtlcpagiljfpbpaaGreatDoorQELo35
import Derived.Test.YtlcpagiljfpbpaaGreatDoorQELo36
import Derived.Test.YtlcpagiljfpbpaaGreatDoorQELo15
import Derived.Test.YtlcpagiljfpbpaaGreatDoorQELo7
namespace Go.Proofs.YtlcpagiljfpbpaaGreatDoor
open Go.RowKit Rep Enc Go.Lib
set_option linter.unusedVariables false
theorem dInstr (w0:World) (p:Nat) (ov:Bool) (v:Value) (bs id:List Int) {d:Nat} (IH:DIS w0 p d) (x:Ins (IL d)) (q4 q5 q6:Option Addr) (y4 z4 y5 z5 y6 z6:Nat) (w:World) (h:PS w0 p ov v bs w) (hS:St id ov bs) (he:size d x.els=y6) (a4:Ints w0 (.slice q4 y4 z4) x.labels) (a5:At w0 d (.slice q5 y5 z5) x.body) (a6:At w0 d (.slice q6 y6 z6) x.els) (r:Rg1 (Rg d) x) :
  Calls Tryz.prog 112 #[.pointer (some ⟨p,0,none⟩),.agg #[.int .i64 x.op,.int .i64 x.a,.int .i64 x.b,.int .i64 x.n,.slice q4 y4 z4,.slice q5 y5 z5,.slice q6 y6 z6]] w (PDo w0 p v w (id++insB (bytesI d) (size d) x)):=by
 have key:∀t,insB (bytesI d) (size d) x=t->Calls Tryz.prog 112 #[.pointer (some ⟨p,0,none⟩),.agg #[.int .i64 x.op,.int .i64 x.a,.int .i64 x.b,.int .i64 x.n,.slice q4 y4 z4,.slice q5 y5 z5,.slice q6 y6 z6]] w (PDo w0 p v w (id++t))->Calls Tryz.prog 112 #[.pointer (some ⟨p,0,none⟩),.agg #[.int .i64 x.op,.int .i64 x.a,.int .i64 x.b,.int .i64 x.n,.slice q4 y4 z4,.slice q5 y5 z5,.slice q6 y6 z6]] w (PDo w0 p v w (id++insB (bytesI d) (size d) x)):=fun t e hc=>by rw [e];exact hc
 have hF:form x.op=1\/form x.op=2\/form x.op=3\/form x.op=4\/form x.op=5\/form x.op=6\/form x.op=7\/form x.op=8\/form x.op=9\/(form x.op<1\/9<form x.op):=by omega
 rcases hF with hf|hf|hf|hf|hf|hf|hf|hf|hf|hf
 ·by_cases h63:x.op=63
  ·exact key _ (by unfold insB;rw [if_pos hf,if_pos (.inl h63)]) (dIns1a w0 p ov v bs id IH x q4 q5 q6 y4 z4 y5 z5 y6 z6 w h hS hf (by simp [h63]) a4 a5 a6 r)
  ·by_cases h64:x.op=64
   ·exact key _ (by unfold insB;rw [if_pos hf,if_pos (.inr h64)]) (dIns1b w0 p ov v bs id IH x q4 q5 q6 y4 z4 y5 z5 y6 z6 w h hS hf (by simp [h63]) (by simp [h64]) a4 a5 a6 r)
   ·exact key _ (by unfold insB;rw [if_pos hf,if_neg (by omega)];simp) (dIns1 w0 p ov v bs id IH x q4 q5 q6 y4 z4 y5 z5 y6 z6 w h hS 1 hf (by omega) (by simp [h63]) (by simp [h64]) a4 a5 a6 r)
 ·have e0:insB (bytesI d) (size d) x = [x.op%256]++blkB x:=by unfold insB blkB;rw [if_neg (by omega),if_pos (.inl hf)]
  rw [e0]
  unfold blkB
  by_cases ha:x.a=0
  ·rw [if_pos ha]
   by_cases hy:0<y6
   ·rw [if_pos (by omega)]
    have:=dIns201 w0 p ov v bs id IH x q4 q5 q6 y4 z4 y5 z5 y6 z6 w h hS hf (by simp [ha]) hy a4 a5 a6 r
    simpa [List.append_assoc] using this
   ·rw [if_neg (by omega)]
    have:=dIns200 w0 p ov v bs id IH x q4 q5 q6 y4 z4 y5 z5 y6 z6 w h hS hf (by simp [ha]) (by omega) a4 a5 a6 r
    simpa [List.append_assoc] using this
  ·rw [if_neg ha]
   by_cases hy:0<y6
   ·rw [if_pos (by omega)]
    have:=dIns211 w0 p ov v bs id IH x q4 q5 q6 y4 z4 y5 z5 y6 z6 w h hS hf (by simp [ha]) hy a4 a5 a6 r
    simpa [List.append_assoc] using this
   ·rw [if_neg (by omega)]
    have:=dIns210 w0 p ov v bs id IH x q4 q5 q6 y4 z4 y5 z5 y6 z6 w h hS hf (by simp [ha]) (by omega) a4 a5 a6 r
    simpa [List.append_assoc] using this
 ·have e0:insB (bytesI d) (size d) x = [x.op%256]++blkB x:=by unfold insB blkB;rw [if_neg (by omega),if_pos (.inr hf)]
  rw [e0]
  unfold blkB
  by_cases ha:x.a=0
  ·rw [if_pos ha]
   by_cases hy:0<y6
   ·rw [if_pos (by omega)]
    have:=dIns301 w0 p ov v bs id IH x q4 q5 q6 y4 z4 y5 z5 y6 z6 w h hS hf (by simp [ha]) hy a4 a5 a6 r
    simpa [List.append_assoc] using this
   ·rw [if_neg (by omega)]
    have:=dIns300 w0 p ov v bs id IH x q4 q5 q6 y4 z4 y5 z5 y6 z6 w h hS hf (by simp [ha]) (by omega) a4 a5 a6 r
    simpa [List.append_assoc] using this
  ·rw [if_neg ha]
   by_cases hy:0<y6
   ·rw [if_pos (by omega)]
    have:=dIns311 w0 p ov v bs id IH x q4 q5 q6 y4 z4 y5 z5 y6 z6 w h hS hf (by simp [ha]) hy a4 a5 a6 r
    simpa [List.append_assoc] using this
   ·rw [if_neg (by omega)]
    have:=dIns310 w0 p ov v bs id IH x q4 q5 q6 y4 z4 y5 z5 y6 z6 w h hS hf (by simp [ha]) (by omega) a4 a5 a6 r
    simpa [List.append_assoc] using this
 ·exact key _ (by unfold insB;rw [if_neg (by omega),if_neg (by omega),if_pos (.inl hf)]) (dIns4 w0 p ov v bs id IH x q4 q5 q6 y4 z4 y5 z5 y6 z6 w h hS hf a4 a5 a6 r)
 ·exact key _ (by unfold insB;rw [if_neg (by omega),if_neg (by omega),if_neg (by omega),if_pos hf,<- List.append_assoc]) (dIns5 w0 p ov v bs id IH x q4 q5 q6 y4 z4 y5 z5 y6 z6 w h hS hf a4 a5 a6 r)
 ·exact key _ (by unfold insB;rw [if_neg (by omega),if_neg (by omega),if_pos (.inr hf)]) (dIns6 w0 p ov v bs id IH x q4 q5 q6 y4 z4 y5 z5 y6 z6 w h hS hf a4 a5 a6 r)
 ·exact key _ (by unfold insB;rw [if_neg (by omega),if_neg (by omega),if_neg (by omega),if_neg (by omega),if_pos hf,<- List.append_assoc]) (dIns7 w0 p ov v bs id IH x q4 q5 q6 y4 z4 y5 z5 y6 z6 w h hS hf a4 a5 a6 r)
 ·exact key _ (by unfold insB;rw [if_neg (by omega),if_neg (by omega),if_neg (by omega),if_neg (by omega),if_neg (by omega),if_pos hf,<- List.append_assoc]) (dIns8 w0 p ov v bs id IH x q4 q5 q6 y4 z4 y5 z5 y6 z6 w h hS hf a4 a5 a6 r)
 ·exact key _ (by unfold insB;rw [if_neg (by omega),if_neg (by omega),if_neg (by omega),if_neg (by omega),if_neg (by omega),if_neg (by omega),if_pos hf]) (dIns9 w0 p ov v bs id IH x q4 q5 q6 y4 z4 y5 z5 y6 z6 w h hS hf a4 a5 a6 r)
 ·by_cases h63:x.op=63
  ·exfalso
   have:form x.op=1:=by rw [h63];decide
   omega
  ·by_cases h64:x.op=64
   ·exfalso
    have:form x.op=1:=by rw [h64];decide
    omega
   ·exact key _ (by unfold insB;rw [if_neg (by omega),if_neg (by omega),if_neg (by omega),if_neg (by omega),if_neg (by omega),if_neg (by omega),if_neg (by omega)];simp) (dIns1 w0 p ov v bs id IH x q4 q5 q6 y4 z4 y5 z5 y6 z6 w h hS _ rfl (by omega) (by simp [h63]) (by simp [h64]) a4 a5 a6 r)
set_option maxRecDepth 100000 in
set_option maxHeartbeats 4000000 in
theorem disS (w0:World) (p:Nat) (d:Nat) (IH:DIS w0 p d):DIS w0 p (d+1):=by
 intro lv l0 ov v bs id w h hS hA0 hR0
 obtain ⟨l,rfl⟩:∃l:List (Ins (IL d)),l=l0:=⟨l0,rfl⟩
 have hA:Row 7 (InsAt w0 (At w0 d)) lv l:=hA0
 have hR:∀x,x ∈ l->Rg1 (Rg d) x:=hR0
 clear hA0 hR0
 show Calls Tryz.prog 74 #[.pointer (some ⟨p,0,none⟩),lv] w (PDo w0 p v w (id++insL (bytesI d) (size d) l))
 obtain ⟨oL,kL,rfl⟩:=Row.len hA
 have la:=hA.1
 have HA:=hideR hA
 have HR:=hideR hR
 have HIH:=hideR IH
 have HPS0:=hideR h
 have HST0:=hideR hS
 clear hA hR IH h hS
 generalize hna:l.length=n at *
 have HNA:=hideR hna
 go_enter Tryz.func74,Tryz.ntmps74
 go_wp2_with fail
 go_loopw [4] (fun i wr=>∃(j:Nat) (ov3:Bool) (v3:Value) (b3:List Int),j<=n/\i=.int .i64 j/\Hid (PS w0 p ov3 v3 b3 wr)/\Hid (St (id++insL (bytesI d) (size d) (l.take j)) ov3 b3)/\Hid (Kept p v w v3 wr)) (fun i _=>n-(Lib.intOf i).toNat)
 case atStart=>exact ⟨0,ov,v,bs,by omega,rfl,HPS0,hideR (by simpa [insL] using HST0.out),hideR (Kept.refl _ _ _)⟩
 case round =>
  clear HPS0 HST0
  obtain ⟨j,ov3,v3,b3,hj,rfl,HPS,HST,HKW⟩:=hrel
  have ko:=HPS.out.cellO
  by_cases hgo:j<n
  ·obtain ⟨b1,off1,cap1,hv1,hx1⟩:=Row.some HA.out (by omega)
   injection hv1 with ho1 e11 e12
   subst ho1
   clear e11 e12
   obtain ⟨x,hxk⟩:∃x,l[j]?=some x:=⟨_,List.getElem?_eq_getElem (by omega)⟩
   have HXK:=hideR hxk
   obtain ⟨cx0,cx1,cx2,cx3,⟨v4,cx4,ax4⟩,⟨v5,cx5,ax5⟩,⟨v6,cx6,ax6⟩⟩:=hx1 j x hxk
   clear hx1 hxk
   obtain ⟨q4,z4,rfl⟩:=Row.len ax4
   obtain ⟨q5,z5,rfl⟩:=At.len d _ _ ax5
   obtain ⟨q6,z6,rfl⟩:=At.len d _ _ ax6
   have cz0:=cell_on HPS.out.below cx0
   have cz1:=cell_on HPS.out.below cx1
   have cz2:=cell_on HPS.out.below cx2
   have cz3:=cell_on HPS.out.below cx3
   have cz4:=cell_on HPS.out.below cx4
   have cz5:=cell_on HPS.out.below cx5
   have cz6:=cell_on HPS.out.below cx6
   clear cx0 cx1 cx2 cx3 cx4 cx5 cx6
   cases ov3 with
   | true =>
    have HF:Hid (St (id++insL (bytesI d) (size d) l) true b3):=hideR (by
     have h1:=(HST.out.more rfl (insL (bytesI d) (size d) (l.drop j)))
     unfold insL at h1 ⊢
     rw [List.append_assoc,<- List.flatMap_append,List.take_append_drop] at h1
     exact h1)
    go_wp2
    go_end0
    exact ⟨_,_,_,rfl,HPS.out,HF.out,HKW.out⟩
   | false =>
    have HC:=hideR (dInstr w0 p false v3 b3 _ HIH.out x q4 q5 q6 _ z4 _ z5 _ z6 wr HPS.out HST.out rfl ax4 ax5 ax6 (HR.out x (List.mem_of_getElem? HXK.out)))
    clear ax4 ax5 ax6
    generalize hy4:x.labels.length=y4 at *
    generalize hy5:size d x.body=y5 at *
    generalize hy6:size d x.els=y6 at *
    go_wp2_with fail
    refine HC.out.mono ?_
    rintro e w4 ⟨ov4,v4,b4,rfl,h4,s4,k4⟩
    have HPS4:=hideR h4
    have HST4:Hid (St (id++insL (bytesI d) (size d) (l.take (j+1))) ov4 b4):=hideR (by rw [insL_take HXK.out,<- List.append_assoc];exact s4)
    have HK4:=hideR (HKW.out.trans k4)
    clear h4 s4 k4 HC
    go_wp2
    go_roundw
    case rel=>exact ⟨j+1,ov4,v4,b4,by omega,by go_num,HPS4,HST4,HK4⟩
    case measure=>simp [Lib.intOf];omega
  ·obtain rfl:n=j:=by omega
   have HF:Hid (St (id++insL (bytesI d) (size d) l) ov3 b3):=hideR (by
    have h1:=HST.out
    rw [List.take_of_length_le (by have:=HNA.out;omega)] at h1
    exact h1)
   go_wp2
   go_end0
   exact ⟨_,_,_,rfl,HPS.out,HF.out,HKW.out⟩
theorem dis0 (w0:World) (p:Nat):DIS w0 p 0:=by
 rintro lv l ov v bs id w h hS ⟨oL,kL,rfl⟩ _
 have HS:=hideR h
 have HT:Hid (St (id++bytesI 0 l) ov bs):=hideR (by show St (id++[]) ov bs;rw [List.append_nil];exact hS)
 clear h hS
 go_enter Tryz.func74,Tryz.ntmps74
 go_wp2_with fail
 go_loopw [4] (fun i wr=>i=.int .i64 0/\wr=w) (fun _ _=>0)
 case atStart=>exact ⟨rfl,rfl⟩
 case round =>
  obtain ⟨rfl,rfl⟩:=hrel
  go_wp2
  go_end0
  exact ⟨_,_,_,rfl,HS.out,HT.out,Kept.refl _ _ _⟩
theorem disAll (w0:World) (p:Nat):∀d,DIS w0 p d
 | 0=>dis0 w0 p
 | d+1=>disS w0 p d (disAll w0 p d)
set_option maxRecDepth 100000 in
set_option maxHeartbeats 2000000 in
theorem dExpr (w0:World) (p:Nat) (d:Nat) (lv:Value) (l:IL d) (ov:Bool) (v:Value) (bs id:List Int) (w:World) (h:PS w0 p ov v bs w) (hS:St id ov bs) (hA:At w0 d lv l) (hR:Rg d l) :
  Calls Tryz.prog 29 #[.pointer (some ⟨p,0,none⟩),lv] w (PDo w0 p v w (id++(bytesI d l++[11]))):=by
 obtain ⟨oL,kL,rfl⟩:=At.len d _ _ hA
 have HC:=hideR (disAll w0 p d _ l ov v bs id w h hS hA hR)
 clear h hS hA hR
 generalize size d l=n at *
 go_enter Tryz.func29,Tryz.ntmps29
 go_wp2_with fail
 refine HC.out.mono ?_
 rintro e w1 ⟨ov1,v1,b1,rfl,h1,s1,k1⟩
 have HC2:=hideR (dByte w0 p ov1 v1 b1 _ 11 w1 h1 s1)
 have HK:=hideR k1
 clear h1 s1 k1 HC
 go_wp2_with fail
 refine HC2.out.mono ?_
 rintro e w2 ⟨ov2,v2,b2,rfl,h2,s2,k2⟩
 have HF:=hideR (⟨h2,by rw [<- List.append_assoc];exact s2,HK.out.trans k2⟩:PS w0 p ov2 v2 b2 w2/\St (id++(bytesI d l++[11])) ov2 b2/\Kept p v w v2 w2)
 clear h2 s2 k2 HC2 HK
 go_wp2
 go_end0
 exact ⟨_,_,_,rfl,HF.out.1,HF.out.2.1,HF.out.2.2⟩
end Go.Proofs.YtlcpagiljfpbpaaGreatDoor

namespace Go.Proofs.YtlcpagiljfpbpaaGreatDoor
open Go.RowKit Rep Enc Go.Lib
set_option linter.unusedVariables false
set_option maxRecDepth 100000 in
set_option maxHeartbeats 4000000 in
theorem disOne (w0:World) (p:Nat) (d:Nat) (b1 kL:Nat) (x:Ins (IL d)) (ov:Bool) (v:Value) (bs id:List Int) (w:World) (h:PS w0 p ov v bs w) (hS:St id ov bs) (hA:InsN w w0 d b1 0 x) (hq:b1<w.heap.size) (hqp:b1≠p) (hqv:some b1≠v.ownBlock) (hR:Rg1 (Rg d) x) :
  Calls Tryz.prog 74 #[.pointer (some ⟨p,0,none⟩),.slice (some ⟨b1,0,none⟩) 1 kL] w (PDo w0 p v w (id++insB (bytesI d) (size d) x)):=by
 obtain ⟨cz0,cz1,cz2,cz3,⟨v4,cz4,ax4⟩,⟨v5,cz5,ax5⟩,⟨v6,cz6,ax6⟩⟩:=hA
 obtain ⟨q4,z4,rfl⟩:=Row.len ax4
 obtain ⟨q5,z5,rfl⟩:=At.len d _ _ ax5
 obtain ⟨q6,z6,rfl⟩:=At.len d _ _ ax6
 have ko:=h.cellO
 cases ov with
 | true =>
  have HF:Hid (PS w0 p true v bs w/\St (id++insB (bytesI d) (size d) x) true bs):=hideR ⟨h,hS.more rfl _⟩
  clear h hS ax4 ax5 ax6 hR
  go_enter Tryz.func74,Tryz.ntmps74
  go_wp2_with fail
  refine wp_loop_rounds 1 ?_
  rw [rounds_succ]
  go_wp2
  go_end0
  exact ⟨_,_,_,rfl,HF.out.1,HF.out.2,Kept.refl _ _ _⟩
 | false =>
  have HC:=hideR (dInstr w0 p false v bs id (disAll w0 p d) x q4 q5 q6 _ z4 _ z5 _ z6 w h hS rfl ax4 ax5 ax6 hR)
  clear h hS ax4 ax5 ax6 hR
  generalize hy4:x.labels.length=y4 at *
  generalize hy5:size d x.body=y5 at *
  generalize hy6:size d x.els=y6 at *
  go_enter Tryz.func74,Tryz.ntmps74
  go_wp2_with fail
  refine wp_loop_rounds 2 ?_
  rw [rounds_succ]
  go_wp2_with fail
  refine HC.out.mono ?_
  rintro e w4 ⟨ov4,v4,b4,rfl,h4,s4,k4⟩
  have ko4:=h4.cellO
  have HF:=hideR (⟨h4,s4,k4⟩:PS w0 p ov4 v4 b4 w4/\St (id++insB (bytesI d) (size d) x) ov4 b4/\Kept p v w v4 w4)
  clear h4 s4 k4 HC
  go_wp2_with fail
  rw [rounds_succ]
  go_wp2
  go_end0
  exact ⟨_,_,_,rfl,HF.out.1,HF.out.2.1,HF.out.2.2⟩
end Go.Proofs.YtlcpagiljfpbpaaGreatDoor

namespace Go.Proofs.YtlcpagiljfpbpaaGreatDoor
open Go.RowKit Rep Enc Go.Lib
set_option linter.unusedVariables false
set_option maxRecDepth 100000 in
set_option maxHeartbeats 2000000 in
theorem dExpr1 (w0:World) (p:Nat) (d:Nat) (b1 kL:Nat) (x:Ins (IL d)) (ov:Bool) (v:Value) (bs id:List Int) (w:World) (h:PS w0 p ov v bs w) (hS:St id ov bs) (hA:InsN w w0 d b1 0 x) (hq:b1<w.heap.size) (hqp:b1≠p) (hqv:some b1≠v.ownBlock) (hR:Rg1 (Rg d) x) :
  Calls Tryz.prog 29 #[.pointer (some ⟨p,0,none⟩),.slice (some ⟨b1,0,none⟩) 1 kL] w (PDo w0 p v w (id++(insB (bytesI d) (size d) x++[11]))):=by
 have HC:=hideR (disOne w0 p d b1 kL x ov v bs id w h hS hA hq hqp hqv hR)
 clear h hS hA hR hq hqp hqv
 go_enter Tryz.func29,Tryz.ntmps29
 go_wp2_with fail
 refine HC.out.mono ?_
 rintro e w1 ⟨ov1,v1,b1,rfl,h1,s1,k1⟩
 have HC2:=hideR (dByte w0 p ov1 v1 b1 _ 11 w1 h1 s1)
 have HK:=hideR k1
 clear h1 s1 k1 HC
 go_wp2_with fail
 refine HC2.out.mono ?_
 rintro e w2 ⟨ov2,v2,b2,rfl,h2,s2,k2⟩
 have HF:=hideR (⟨h2,by rw [<- List.append_assoc];exact s2,HK.out.trans k2⟩:PS w0 p ov2 v2 b2 w2/\St (id++(insB (bytesI d) (size d) x++[11])) ov2 b2/\Kept p v w v2 w2)
 clear h2 s2 k2 HC2 HK
 go_wp2
 go_end0
 exact ⟨_,_,_,rfl,HF.out.1,HF.out.2.1,HF.out.2.2⟩
namespace Enc
def PMade (w:World) (id:List Int) (e:Ending) (w':World):Prop:=∃q ov v bs,e=.returned (.pointer (some ⟨q,0,none⟩))/\PS w q ov v bs w'/\St id ov bs
end Enc
set_option maxRecDepth 100000 in
set_option maxHeartbeats 2000000 in
theorem dCounted (n:Int) (w:World) (h0:0<=n) (h1:n<=9223372036854775807):Calls Tryz.prog 69 #[.int .i64 n] w (PMade w (Leb.uB n)):=by
 have HC:=hideR (dU w w.heap.size false (.slice none 0 0) [] [] n _ (PS.new w) St.nil h0 h1)
 go_enter Tryz.func69,Tryz.ntmps69
 go_wp2_with fail
 refine HC.out.mono ?_
 rintro e w1 ⟨ov1,v1,b1,rfl,h1,s1,k1⟩
 have HF:=hideR (⟨h1,s1⟩:PS w w.heap.size ov1 v1 b1 w1/\St ([]++Leb.uB n) ov1 b1)
 clear h1 s1 k1 HC
 go_wp2
 go_ret
 exact ⟨_,_,_,_,rfl,HF.out.1,HF.out.2⟩
namespace Enc
def limsB (f:List Int) (x:Lim):List Int:=f++limB x
end Enc
set_option maxRecDepth 100000 in
set_option maxHeartbeats 4000000 in
theorem dLimits (w0:World) (p:Nat) (ov:Bool) (v:Value) (bs id:List Int) (lv:Value) (l:List Lim) (s:ByteArray) (w:World) (h:PS w0 p ov v bs w) (hS:St id ov bs) (hL:Row 3 (LimAt w0) lv l) (hr:∀x ∈ l,(0<=x.min/\x.min<=4294967295)/\0<=x.max/\x.max<=4294967295) (hs:s.size<=1000) :
  Calls Tryz.prog 108 #[.pointer (some ⟨p,0,none⟩),lv,.string s] w (PDo w0 p v w (id++lisB (limsB (nums s)) l)):=by
 obtain ⟨oL,kL,rfl⟩:=Row.len hL
 have la:=hL.1
 have HC0:=hideR (dU w0 p ov v bs id (l.length:Int) w h hS (by omega) (by omega))
 have HL:=hideR hL
 have HR:=hideR hr
 clear h hS hL hr
 generalize hna:l.length=n at *
 have HNA:=hideR hna
 obtain ⟨u0,hu0⟩:∃u0,Leb.uB (n:Int)=u0:=⟨_,rfl⟩
 rw [hu0] at HC0
 have HU0:=hideR hu0
 clear hu0
 go_enter Tryz.func108,Tryz.ntmps108
 go_wp2_with fail
 refine HC0.out.mono ?_
 rintro e w1 ⟨ov1,v1,b1,rfl,h1,s1,k1⟩
 have HPS1:=hideR h1
 have HST1:=hideR s1
 have HK1:=hideR k1
 clear h1 s1 k1 HC0
 go_wp2_with fail
 go_loopw [6] (fun i wr=>∃(j:Nat) (ov3:Bool) (v3:Value) (b3:List Int),j<=n/\i=.int .i64 j/\Hid (PS w0 p ov3 v3 b3 wr)/\Hid (St (id++u0++(l.take j).flatMap (limsB (nums s))) ov3 b3)/\Hid (Kept p v w v3 wr)) (fun i _=>n-(Lib.intOf i).toNat)
 case atStart=>exact ⟨0,ov1,v1,b1,by omega,rfl,HPS1,hideR (by simpa using HST1.out),HK1⟩
 case round =>
  clear HPS1 HST1 HK1
  obtain ⟨j,ov3,v3,b3,hj,rfl,HPS,HST,HKW⟩:=hrel
  by_cases hgo:j<n
  ·obtain ⟨b1,off1,cap1,hv1,hx1⟩:=Row.some HL.out (by omega)
   injection hv1 with ho1 e11 e12
   subst ho1
   clear e11 e12
   obtain ⟨x,hxk⟩:∃x,l[j]?=some x:=⟨_,List.getElem?_eq_getElem (by omega)⟩
   have HX:=hideR (hx1 j x hxk)
   have HRX:=hideR (HR.out x (List.mem_of_getElem? hxk))
   have HTK:Hid ((l.take (j+1)).flatMap (limsB (nums s))=(l.take j).flatMap (limsB (nums s))++limsB (nums s) x):=hideR (fm_take hxk)
   clear hxk hx1
   have HC:=hideR (dPut w0 p ov3 v3 b3 _ s wr HPS.out HST.out (by omega))
   go_wp2_with fail
   refine HC.out.mono ?_
   rintro e w4 ⟨ov4,v4,b4,rfl,h4,s4,k4⟩
   have HP4:=hideR h4
   have HS4:=hideR s4
   have HK4:=hideR (HKW.out.trans k4)
   clear h4 s4 k4 HC HPS HST HKW
   have cx0:=cell_on HP4.out.below HX.out.min
   have cx1:=cell_on HP4.out.below HX.out.max
   have cx2:=cell_on HP4.out.below HX.out.has
   obtain ⟨xmin,xmax,xhas⟩:=x
   simp only at cx0 cx1 cx2
   cases xhas with
   | true =>
    have HC:=hideR (dByte w0 p ov4 v4 b4 _ 1 w4 HP4.out HS4.out)
    go_wp2_with fail
    refine HC.out.mono ?_
    rintro e w5 ⟨ov5,v5,b5,rfl,h5,s5,k5⟩
    have HP5:=hideR h5
    have HS5:=hideR s5
    have HK5:=hideR (HK4.out.trans k5)
    clear h5 s5 k5 HC HP4 HS4 HK4 cx0 cx1 cx2
    have cx0:=cell_on HP5.out.below HX.out.min
    have HC:=hideR (dU w0 p ov5 v5 b5 _ xmin w5 HP5.out HS5.out HRX.out.1.1 (by have:=HRX.out.1.2;omega))
    simp only at cx0
    go_wp2_with fail
    refine HC.out.mono ?_
    rintro e w6 ⟨ov6,v6,b6,rfl,h6,s6,k6⟩
    have HP6:=hideR h6
    have HS6:=hideR s6
    have HK6:=hideR (HK5.out.trans k6)
    clear h6 s6 k6 HC HP5 HS5 HK5 cx0
    have cx1:=cell_on HP6.out.below HX.out.max
    have HC:=hideR (dU w0 p ov6 v6 b6 _ xmax w6 HP6.out HS6.out HRX.out.2.1 (by have:=HRX.out.2.2;omega))
    simp only at cx1
    go_wp2_with fail
    refine HC.out.mono ?_
    rintro e w7 ⟨ov7,v7,b7,rfl,h7,s7,k7⟩
    have HP7:=hideR h7
    have HS7:Hid (St (id++u0++(l.take (j+1)).flatMap (limsB (nums s))) ov7 b7):=hideR (by rw [HTK.out];simpa [limsB,limB,one,List.append_assoc] using s7)
    have HK7:=hideR (HK6.out.trans k7)
    clear h7 s7 k7 HC HP6 HS6 HK6 cx1
    go_wp2
    go_roundw
    case rel=>exact ⟨j+1,ov7,v7,b7,by omega,by go_num,HP7,HS7,HK7⟩
    case measure=>simp [Lib.intOf];omega
   | false =>
    have HC:=hideR (dByte w0 p ov4 v4 b4 _ 0 w4 HP4.out HS4.out)
    go_wp2_with fail
    refine HC.out.mono ?_
    rintro e w5 ⟨ov5,v5,b5,rfl,h5,s5,k5⟩
    have HP5:=hideR h5
    have HS5:=hideR s5
    have HK5:=hideR (HK4.out.trans k5)
    clear h5 s5 k5 HC HP4 HS4 HK4 cx0 cx1 cx2
    have cx0:=cell_on HP5.out.below HX.out.min
    have HC:=hideR (dU w0 p ov5 v5 b5 _ xmin w5 HP5.out HS5.out HRX.out.1.1 (by have:=HRX.out.1.2;omega))
    simp only at cx0
    go_wp2_with fail
    refine HC.out.mono ?_
    rintro e w7 ⟨ov7,v7,b7,rfl,h7,s7,k7⟩
    have HP7:=hideR h7
    have HS7:Hid (St (id++u0++(l.take (j+1)).flatMap (limsB (nums s))) ov7 b7):=hideR (by rw [HTK.out];simpa [limsB,limB,one,List.append_assoc] using s7)
    have HK7:=hideR (HK5.out.trans k7)
    clear h7 s7 k7 HC HP5 HS5 HK5 cx0
    go_wp2
    go_roundw
    case rel=>exact ⟨j+1,ov7,v7,b7,by omega,by go_num,HP7,HS7,HK7⟩
    case measure=>simp [Lib.intOf];omega
  ·obtain rfl:n=j:=by omega
   have HF:Hid (St (id++lisB (limsB (nums s)) l) ov3 b3):=hideR (by
    have h1:=HST.out
    rw [List.take_of_length_le (by have:=HNA.out;omega),List.append_assoc] at h1
    unfold lisB;rw [HNA.out,HU0.out];exact h1)
   go_wp2
   go_end0
   exact ⟨_,_,_,rfl,HPS.out,HF.out,HKW.out⟩
set_option maxRecDepth 100000 in
set_option maxHeartbeats 2000000 in
theorem dLimited (lv:Value) (l:List Lim) (s:ByteArray) (w:World) (hL:Row 3 (LimAt w) lv l) (hr:∀x ∈ l,(0<=x.min/\x.min<=4294967295)/\0<=x.max/\x.max<=4294967295) (hs:s.size<=1000) :
  Calls Tryz.prog 66 #[lv,.string s] w (PMade w (lisB (limsB (nums s)) l)):=by
 obtain ⟨oL,kL,rfl⟩:=Row.len hL
 have HC:=hideR (dLimits w w.heap.size false (.slice none 0 0) [] [] _ l s _ (PS.new w) St.nil hL hr hs)
 clear hL hr
 generalize l.length=n at *
 go_enter Tryz.func66,Tryz.ntmps66
 go_wp2_with fail
 refine HC.out.mono ?_
 rintro e w1 ⟨ov1,v1,b1,rfl,h1,s1,k1⟩
 have HF:=hideR (⟨h1,s1⟩:PS w w.heap.size ov1 v1 b1 w1/\St ([]++lisB (limsB (nums s)) l) ov1 b1)
 clear h1 s1 k1 HC
 go_wp2
 go_ret
 exact ⟨_,_,_,_,rfl,HF.out.1,HF.out.2⟩
end Go.Proofs.YtlcpagiljfpbpaaGreatDoor

namespace Go.Proofs.YtlcpagiljfpbpaaGreatDoor
open Go.RowKit Rep
set_option linter.unusedVariables false
namespace Reg
section
variable {P:Program} {ops:Array Oper} {Q:Exit->Act->World->Prop} {id:Nat} {a0:Act} {w0:World}
def AheadE (ops:Array Oper) (a0:Act) (n:Nat) (dst:Nat->Nat) (K:World->Prop) (R:Nat->World->Prop) (G:Nat->Value->World->Prop) (L:Array Bool) (a:Act) (w:World):Prop :=
 (∀k,n<=k->L.getD k false=false)/\Fr a0 dst n a/\K w/\(∀i,i<n->L.getD i false=false->R i w)/\∀i,i<n->L.getD i false=true->G i (a.eval (.tmp (dst i))) w
theorem wp_region_eff (n:Nat) (dst:Nat->Nat) (fp:Nat->Option Nat) (K:World->Prop) (R:Nat->World->Prop) (G:Nat->Value->World->Prop) (hm:P.follows .mixedOrders=true) (hT:tailOk ops n=true)
  (hinj:∀i j,i<n->j<n->dst i=dst j->i=j)
  (hdst:∀i,i<n->∃o,ops[i]?=some o/\o.dst=some (dst i)/\o.guard=none/\dst i<a0.tmps.size)
  (hstab:∀i k v w w',i<n->k<n->i≠k->K w->G i v w->w.grownBy w' (fp k)->G i v w')
  (hres:∀i k w w',i<n->k<n->i≠k->R i w->w.grownBy w' (fp k)->R i w')
  (hK:∀k w w',k<n->K w->w.grownBy w' (fp k)->K w')
  (hstep:∀i o a w,i<n->ops[i]?=some o->Fr a0 dst n a->K w->R i w->(∀j ∈ deps o,G j (a.eval (.tmp (dst j))) w)->o.wp P a w (fun a' w'=>∃v,a'=a.put o.dst v/\w.grownBy w' (fp i)/\G i v w') Q)
  (htail:∀a w,Fr a0 dst n a->K w->(∀i,i<n->G i (a.eval (.tmp (dst i))) w)->wpList P ops Q (ops.toList.drop n) a w)
  (hK0:K { w0 with drawn:=w0.drawn+1 }) (hR0:∀i,i<n->R i { w0 with drawn:=w0.drawn+1 }) :
  (Code.region id ops true).wp P Q a0 w0:=by
 have hT2:=hT
 unfold tailOk at hT2
 rw [Bool.and_eq_true,List.all_eq_true,decide_eq_true_eq] at hT2
 obtain ⟨hn,hT2⟩:=hT2
 have hlow:∀i,i<ops.size->∀j ∈ depsAt ops i,j<i:=fun i hi j hj=>by
  have:=hT2 i (List.mem_range.2 hi)
  rw [Bool.and_eq_true,List.all_eq_true] at this
  exact of_decide_eq_true (this.1 j hj)
 have hbig:∀(L:Array Bool) i,n<=i->i<ops.size->Closed ops L->(∀j ∈ depsAt ops i,L.getD j false=true)->∀j,j<i->L.getD j false=true:=fun L i hi hs hc hd j hj=>by
  have:=hT2 i (List.mem_range.2 hs)
  rw [Bool.and_eq_true,Bool.or_eq_true,decide_eq_true_eq] at this
  rcases this.2 with h|h
  ·omega
  ·have hjm:j ∈ clos ops [i] i:=by simpa using (List.all_eq_true.1 h) j (List.mem_range.2 hj)
   rcases clos_mem hc hd i [i] (fun m hm=>.inl (List.mem_singleton.1 hm)) j hjm with h|h
   ·omega
   ·exact h
 refine wp_region_inv (fun L a w=>L.size=ops.size/\Closed ops L/\(AheadE ops a0 n dst K R G L a w\/Behind P ops Q n L a w)) hm ?_ ?_ ?_
 ·rintro L i a w hi ⟨hsz,hc,hph⟩
  obtain ⟨hLi,o,ho,hd⟩:=ready_deps hi
  obtain ⟨hiL,hLf⟩:=getD_false hLi
  have hd':∀j ∈ depsAt ops i,L.getD j false=true:=by rw [depsAt_some ho];exact hd
  have hsz':(L.setIfInBounds i true).size=ops.size:=by rw [Array.size_setIfInBounds,hsz]
  have hc':Closed ops (L.setIfInBounds i true):=fun m hm j hj=>by
   rw [getD_set L i _ hiL] at hm ⊢
   split
   ·rfl
   ·by_cases he:m=i
    ·subst he;exact hd' j hj
    ·rw [if_neg he] at hm;exact hc m hm j hj
  have low:∀k,n<=k->(∀j,j<k->L.getD j false=true)->(∀j,k<=j->L.getD j false=false)->n<=i->i=k:=fun k hnk hk1 hk2 hni=>by
   have h1:=hbig L i hni (by omega) hc hd'
   rcases Nat.lt_trichotomy i k with h|h|h
   ·rw [hk1 i h] at hLf;cases hLf
   ·exact h
   ·have:=h1 k h;rw [hk2 k (Nat.le_refl _)] at this;cases this
  have onBehind:∀k,k=i->n<=k->(∀j,j<k->L.getD j false=true)->(∀j,k<=j->L.getD j false=false)->wpList P ops Q (ops.toList.drop k) a w->wpOp P ops Q i (fun a w=>(L.setIfInBounds i true).size=ops.size/\Closed ops (L.setIfInBounds i true)/\(AheadE ops a0 n dst K R G (L.setIfInBounds i true) a w\/Behind P ops Q n (L.setIfInBounds i true) a w)) a w:=by
   rintro k rfl hnk hk1 hk2 hwp
   have hks:k<ops.size:=by omega
   have hcons:ops.toList.drop k=o :: ops.toList.drop (k+1):=by
    rw [List.drop_eq_getElem_cons (by simpa using hks)]
    congr 1
    have:=Array.getElem?_eq_getElem hks
    rw [ho] at this
    simpa using (Option.some.inj this).symm
   rw [hcons] at hwp
   have up:∀a w,wpList P ops Q (ops.toList.drop (k+1)) a w->(L.setIfInBounds k true).size=ops.size/\Closed ops (L.setIfInBounds k true)/\(AheadE ops a0 n dst K R G (L.setIfInBounds k true) a w\/Behind P ops Q n (L.setIfInBounds k true) a w):=fun a w h =>
    ⟨hsz',hc',.inr ⟨k+1,by omega,fun j hj=>by
     rw [getD_set L k _ hiL]
     split
     ·rfl
     ·exact hk1 j (by omega),fun j hj=>by
     rw [getD_set L k _ hiL,if_neg (by omega)]
     exact hk2 j (by omega),h⟩⟩
   unfold wpOp
   rw [ho]
   unfold wpList at hwp
   show ite _ _ _
   split
   ·rename_i hw
    rw [if_pos hw] at hwp
    exact hwp.imp (Oper.wp_mono up) (fun h=>h)
   ·rename_i hw
    rw [if_neg hw] at hwp
    exact up _ _ hwp
  rcases hph with ⟨hk,hF,hB,hR,hG⟩|⟨k,hnk,hk1,hk2,hwp⟩
  ·by_cases hin:i<n
   ·obtain ⟨o',ho',hod,hog,hos⟩:=hdst i hin
    have:o'=o:=by rw [ho] at ho';exact (Option.some.inj ho').symm
    subst this
    have hs:=hstep i o' a w hin ho hF hB (hR i hin hLf) (fun j hj=>hG j (by have:=hlow i (by omega) j (by rw [depsAt_some ho];exact hj);omega) (hd j hj))
    unfold wpOp
    rw [ho]
    show ite _ _ _
    rw [if_pos (by simp [Region.wanted,hog])]
    refine .inl (Oper.wp_mono ?_ hs)
    rintro a' w' ⟨v,rfl,hBw,hGv⟩
    have hos':dst i<a.tmps.size:=by rw [hF.size];exact hos
    refine ⟨hsz',hc',.inl ⟨fun k hnk=>?_,by rw [hod];exact hF.put hin v,?_,fun j hj hLj=>?_,fun j hj hLj=>?_⟩⟩
    ·rw [getD_set L i _ hiL,if_neg (by omega)];exact hk k hnk
    ·exact hK i w w' hin hB hBw
    ·by_cases he:j=i
     ·subst he;rw [getD_set L j _ hiL,if_pos rfl] at hLj;cases hLj
     ·rw [getD_set L i _ hiL,if_neg he] at hLj
      exact hres j i w w' hj hin he (hR j hj hLj) hBw
    ·rw [hod]
     by_cases he:j=i
     ·subst he;rw [put_eval_same v hos'];exact hGv
     ·rw [getD_set L i _ hiL,if_neg he] at hLj
      rw [put_eval_ne v (fun e=>he (hinj i j hin hj e).symm)]
      exact hstab j i _ w w' hj hin he hB (hG j hj hLj) hBw
   ·have h1:=hbig L i (by omega) (by omega) hc hd'
    have hin':n=i:=by
     rcases Nat.lt_or_ge n i with h|h
     ·have:=h1 n h;rw [hk n (Nat.le_refl _)] at this;cases this
     ·omega
    refine onBehind n hin' (Nat.le_refl _) (fun j hj=>h1 j (by omega)) hk (htail a w hF hB fun j hj=>hG j hj (h1 j (by omega)))
  ·rcases Nat.lt_or_ge i n with h|h
   ·rw [hk1 i (by omega)] at hLf;cases hLf
   ·exact onBehind k (low k hnk hk1 hk2 h).symm hnk hk1 hk2 hwp
 ·rintro L a w hr ⟨hsz,hc,⟨hk,_⟩|⟨k,hnk,hk1,hk2,hwp⟩⟩
  ·have:=not_ready hT hsz hr n hn
   rw [hk n (Nat.le_refl _)] at this;cases this
  ·have:ops.size<=k:=by
    rcases Nat.lt_or_ge k ops.size with h|h
    ·have:=not_ready hT hsz hr k h
     rw [hk2 k (Nat.le_refl _)] at this;cases this
    ·exact h
   rw [List.drop_eq_nil_of_le (by simpa using this)] at hwp
   exact hwp
 ·have hf:∀k,(Array.replicate ops.size false).getD k false=false:=fun k=>by
   simp [Array.getD]
  refine ⟨by simp,fun i hi=>?_,.inl ⟨fun k _=>hf k,⟨rfl,rfl,fun _ _=>rfl⟩,hK0,fun i hi _=>hR0 i hi,fun i _ hL=>?_⟩⟩
  ·rw [hf] at hi;cases hi
  ·rw [hf] at hL;cases hL
end
end Reg
end Go.Proofs.YtlcpagiljfpbpaaGreatDoor

