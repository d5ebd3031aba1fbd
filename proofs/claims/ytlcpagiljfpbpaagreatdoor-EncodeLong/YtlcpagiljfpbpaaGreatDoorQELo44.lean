/- Texts that the claim needs. -/
import Derived.Test.YtlcpagiljfpbpaaGreatDoorQELo5
import Derived.Test.YtlcpagiljfpbpaaGreatDoorQELo1
import Derived.Deep.CutRange
import Derived.Test.YtlcpagiljfpbpaaGreatDoorQELo22
namespace Go.Proofs.YtlcpagiljfpbpaaGreatDoor
open Go.RowKit Rep
set_option linter.unusedVariables false
namespace Rep
theorem few_iff (n:Nat):few (n:Int)=true↔n<=4096:=by
 unfold few;rw [decide_eq_true_iff];omega
theorem few1_iff (n:Nat):few1 (n:Int)=true↔n<=1:=by
 unfold few1;rw [decide_eq_true_iff];omega
theorem fewL_iff {d:Nat} (f:Fun d):fewL f=true↔f.locals.length<=256:=by
 unfold fewL;rw [decide_eq_true_iff];omega
theorem fewM_iff {d:Nat} (m:Mod d):fewM m=true ↔
  (m.types.length<=4096/\m.imports.length<=4096/\m.funcs.length<=4096/\m.tables.length<=4096/\m.mems.length<=4096/\m.globals.length<=4096/\m.exports.length<=4096/\m.elems.length<=4096/\m.datas.length<=4096/\m.start.length<=1) /\
  (∀x ∈ m.types,x.params.length<=4096/\x.results.length<=4096)/\(∀x ∈ m.funcs,x.locals.length<=256)/\(∀x ∈ m.elems,x.funcs.length<=4096)/\room 262144 m.datas=true:=by
 unfold fewM
 simp only [Bool.and_eq_true,List.all_eq_true,List.all_cons,List.all_nil,len,fewT,fewE,fewL_iff,few1_iff,few_iff,and_true]
 constructor
 ·rintro ⟨⟨a,b,c,e,f⟩,⟨g,h,i,j⟩,k,l,p,q,r⟩
  exact ⟨⟨a,b,c,e,f,g,h,i,j,k⟩,l,p,q,r⟩
 ·rintro ⟨⟨a,b,c,e,f,g,h,i,j,k⟩,l,p,q,r⟩
  exact ⟨⟨a,b,c,e,f⟩,⟨g,h,i,j⟩,k,l,p,q,r⟩
theorem mem_on {α:Type} {l:List α} {p:α->Prop} {j:Nat} {x:α} (h:∀t y,t<j->l[t]?=some y->p y) (hx:l[j]?=some x) (hp:p x):∀t y,t<j+1->l[t]?=some y->p y:=fun t y ht hy=>by
 by_cases h2:t<j
 ·exact h t y h2 hy
 ·obtain rfl:t=j:=by omega
  obtain rfl:x=y:=Option.some.inj (hx.symm.trans hy)
  exact hp
theorem mem_all {α:Type} {l:List α} {p:α->Prop} {n:Nat} (hn:l.length=n) (h:∀t y,t<n->l[t]?=some y->p y):∀x ∈ l,p x:=fun x hx=>by
 obtain ⟨i,hi,rfl⟩:=List.getElem_of_mem hx
 exact h i _ (by omega) (List.getElem?_eq_getElem hi)
end Rep
set_option maxRecDepth 100000 in
set_option maxHeartbeats 8000000 in
theorem refMany (d:Nat) (v0 v1 v2 v3 v4 v5 v6 v7 v8 v9:Value) (m:Mod d) (w:World) (hM:ModAt w d v0 v1 v2 v3 v4 v5 v6 v7 v8 v9 m) (hsz:∀x ∈ m.datas,x.bytes.size<=4611686018427387904) :
  Calls Tryz.prog 57 #[.agg #[v0,v1,v2,v3,v4,v5,v6,v7,v8,v9]] w fun e w'=>e=.returned (.bool (!fewM m))/\Below w.heap.size w w':=by
 have l0:=hM.types.1
 have l1:=hM.imports.1
 have l2:=hM.funcs.1
 have l3:=hM.tables.1
 have l4:=hM.mems.1
 have l5:=hM.globals.1
 have l6:=hM.exports.1
 have l7:=hM.start.1
 have l8:=hM.elems.1
 have l9:=hM.datas.1
 have HM:=hideR hM
 have HZ:=hideR hsz
 obtain ⟨o0,c0,rfl⟩:=Row.len hM.types
 obtain ⟨o1,c1,rfl⟩:=Row.len hM.imports
 obtain ⟨o2,c2,rfl⟩:=Row.len hM.funcs
 obtain ⟨o3,c3,rfl⟩:=Row.len hM.tables
 obtain ⟨o4,c4,rfl⟩:=Row.len hM.mems
 obtain ⟨o5,c5,rfl⟩:=Row.len hM.globals
 obtain ⟨o6,c6,rfl⟩:=Row.len hM.exports
 obtain ⟨o7,c7,rfl⟩:=Row.len hM.start
 obtain ⟨o8,c8,rfl⟩:=Row.len hM.elems
 obtain ⟨o9,c9,rfl⟩:=Row.len hM.datas
 have HS0:=hideR (Box.start w 32 (.slice o0 m.types.length c0) (.slice o1 m.imports.length c1) (.slice o2 m.funcs.length c2) (.slice o3 m.tables.length c3) (.slice o4 m.mems.length c4) (.slice o5 m.globals.length c5) (.slice o6 m.exports.length c6) (.slice o7 m.start.length c7) (.slice o8 m.elems.length c8) (.slice o9 m.datas.length c9))
 obtain ⟨R,hR⟩:∃R,R = !fewM m:=⟨_,rfl⟩
 rw [<- hR]
 have RT:Hid (¬ fewM m=true->R=true):=hideR (fun h=>by rw [hR,Bool.eq_false_iff.2 h];rfl)
 have RF:Hid (fewM m=true->R=false):=hideR (fun h=>by rw [hR,h];rfl)
 have HIFF:=hideR (fewM_iff m)
 clear hM hsz hR
 generalize hn0:m.types.length=n0 at *
 generalize hn1:m.imports.length=n1 at *
 generalize hn2:m.funcs.length=n2 at *
 generalize hn3:m.tables.length=n3 at *
 generalize hn4:m.mems.length=n4 at *
 generalize hn5:m.globals.length=n5 at *
 generalize hn6:m.exports.length=n6 at *
 generalize hn7:m.start.length=n7 at *
 generalize hn8:m.elems.length=n8 at *
 generalize hn9:m.datas.length=n9 at *
 go_enter Tryz.func57,Tryz.ntmps57
 go_upto_region 1 with fail
 obtain ⟨wb,hwb⟩:∃wb,wb=w.alloc (.cells #[.slice o0 n0 c0,.slice o1 n1 c1,.slice o2 n2 c2,.slice o3 n3 c3,.slice o4 n4 c4,.slice o5 n5 c5,.slice o6 n6 c6,.slice o7 n7 c7,.slice o8 n8 c8,.slice o9 n9 c9] 32):=⟨_,rfl⟩
 rw [<- hwb] at HS0 ⊢
 clear hwb
 obtain ⟨q0,q1,q2,q3,q4,q5,q6,q7,q8,q9,qb⟩:=HS0.out
 have QB:=hideR qb
 clear qb
 obtain ⟨B,hB⟩:∃B:Bool,B=decide (4096<n0\/4096<n1\/4096<n2\/4096<n3\/4096<n4\/4096<n5\/4096<n6\/4096<n8\/4096<n9\/1<n7):=⟨_,rfl⟩
 have HBB:=hideR hB
 clear hB
 go_cut [65] from 8 to 65 (fun c wx=>c=.bool B/\wx=wb)
 case first =>
  by_cases g0:4096<n0
  ·obtain rfl:B=true:=HBB.out.trans (decide_eq_true (by omega))
   have t0:decide ((4096:Int)<(n0:Int))=true:=decide_eq_true (by omega)
   go_wp2_with fail
   go_meet
   exact ⟨rfl,rfl⟩
  have t0:decide ((4096:Int)<(n0:Int))=false:=decide_eq_false (by omega)
  by_cases g1:4096<n1
  ·obtain rfl:B=true:=HBB.out.trans (decide_eq_true (by omega))
   have t1:decide ((4096:Int)<(n1:Int))=true:=decide_eq_true (by omega)
   go_wp2_with fail
   go_meet
   exact ⟨rfl,rfl⟩
  have t1:decide ((4096:Int)<(n1:Int))=false:=decide_eq_false (by omega)
  by_cases g2:4096<n2
  ·obtain rfl:B=true:=HBB.out.trans (decide_eq_true (by omega))
   have t2:decide ((4096:Int)<(n2:Int))=true:=decide_eq_true (by omega)
   go_wp2_with fail
   go_meet
   exact ⟨rfl,rfl⟩
  have t2:decide ((4096:Int)<(n2:Int))=false:=decide_eq_false (by omega)
  by_cases g3:4096<n3
  ·obtain rfl:B=true:=HBB.out.trans (decide_eq_true (by omega))
   have t3:decide ((4096:Int)<(n3:Int))=true:=decide_eq_true (by omega)
   go_wp2_with fail
   go_meet
   exact ⟨rfl,rfl⟩
  have t3:decide ((4096:Int)<(n3:Int))=false:=decide_eq_false (by omega)
  by_cases g4:4096<n4
  ·obtain rfl:B=true:=HBB.out.trans (decide_eq_true (by omega))
   have t4:decide ((4096:Int)<(n4:Int))=true:=decide_eq_true (by omega)
   go_wp2_with fail
   go_meet
   exact ⟨rfl,rfl⟩
  have t4:decide ((4096:Int)<(n4:Int))=false:=decide_eq_false (by omega)
  by_cases g5:4096<n5
  ·obtain rfl:B=true:=HBB.out.trans (decide_eq_true (by omega))
   have t5:decide ((4096:Int)<(n5:Int))=true:=decide_eq_true (by omega)
   go_wp2_with fail
   go_meet
   exact ⟨rfl,rfl⟩
  have t5:decide ((4096:Int)<(n5:Int))=false:=decide_eq_false (by omega)
  by_cases g6:4096<n6
  ·obtain rfl:B=true:=HBB.out.trans (decide_eq_true (by omega))
   have t6:decide ((4096:Int)<(n6:Int))=true:=decide_eq_true (by omega)
   go_wp2_with fail
   go_meet
   exact ⟨rfl,rfl⟩
  have t6:decide ((4096:Int)<(n6:Int))=false:=decide_eq_false (by omega)
  by_cases g8:4096<n8
  ·obtain rfl:B=true:=HBB.out.trans (decide_eq_true (by omega))
   have t8:decide ((4096:Int)<(n8:Int))=true:=decide_eq_true (by omega)
   go_wp2_with fail
   go_meet
   exact ⟨rfl,rfl⟩
  have t8:decide ((4096:Int)<(n8:Int))=false:=decide_eq_false (by omega)
  by_cases g9:4096<n9
  ·obtain rfl:B=true:=HBB.out.trans (decide_eq_true (by omega))
   have t9:decide ((4096:Int)<(n9:Int))=true:=decide_eq_true (by omega)
   go_wp2_with fail
   go_meet
   exact ⟨rfl,rfl⟩
  have t9:decide ((4096:Int)<(n9:Int))=false:=decide_eq_false (by omega)
  by_cases g7:1<n7
  ·obtain rfl:B=true:=HBB.out.trans (decide_eq_true (by omega))
   have t7:decide ((1:Int)<(n7:Int))=true:=decide_eq_true (by omega)
   go_wp2_with fail
   go_meet
   exact ⟨rfl,rfl⟩
  have t7:decide ((1:Int)<(n7:Int))=false:=decide_eq_false (by omega)
  obtain rfl:B=false:=HBB.out.trans (decide_eq_false (by omega))
  go_wp2_with fail
  go_meet
  exact ⟨rfl,rfl⟩
 obtain ⟨rfl,hwc⟩:=hcut
 obtain rfl:wb=wc:=hwc.symm
 cases B with
 | true =>
  have hB:=of_decide_eq_true HBB.out.symm
  obtain rfl:=RT.out (fun h=>by have:=(HIFF.out.1 h).1;omega)
  clear RT RF HIFF hB
  go_wp2
  go_ret
  exact ⟨rfl,QB.out⟩
 | false =>
 have hB:=of_decide_eq_false HBB.out.symm
 have HLN:Hid (n0<=4096/\n1<=4096/\n2<=4096/\n3<=4096/\n4<=4096/\n5<=4096/\n6<=4096/\n8<=4096/\n9<=4096/\n7<=1):=hideR (by omega)
 have g0:n0<=4096:=by omega
 have g2:n2<=4096:=by omega
 have g8:n8<=4096:=by omega
 have g9:n9<=4096:=by omega
 clear hB HBB
 go_wp2_with fail
 go_loopw [3] (fun i wr=>∃j:Nat,j<=n0/\i=.int .i64 j/\Hid (∀t y,t<j->m.types[t]?=some y->y.params.length<=4096/\y.results.length<=4096)/\wr=wb) (fun i _=>n0-(RowKit.intOf i).toNat)
 case atStart=>exact ⟨0,by omega,rfl,hideR (fun t y ht=>by omega),rfl⟩
 case round =>
  obtain ⟨j,hj,rfl,HF,rfl⟩:=hrel
  by_cases hgo:j<n0
  ·obtain ⟨b,off,cap2,hv2,hx⟩:=Row.some ((HM.out.on QB.out).types) (by omega)
   injection hv2 with ho h2 h3
   subst ho
   obtain ⟨x,hxk⟩:∃x,m.types[j]?=some x:=⟨_,List.getElem?_eq_getElem (by omega)⟩
   have hI:=hx j x hxk
   have HXM:=hideR (List.mem_of_getElem? hxk)
   obtain ⟨vp,kp,ip⟩:=hI.params
   obtain ⟨op',np',cp',rfl,hnp⟩:∃ol nl cl,vp=.slice ol nl cl/\nl=x.params.length:=by
    obtain ⟨ol,cl,h⟩:=Row.len ip
    exact ⟨ol,_,cl,h,rfl⟩
   have lbp:=ip.1
   rw [<- hnp] at lbp
   obtain ⟨vr,kr,ir⟩:=hI.results
   obtain ⟨or',nr',cr',rfl,hnr⟩:∃ol nl cl,vr=.slice ol nl cl/\nl=x.results.length:=by
    obtain ⟨ol,cl,h⟩:=Row.len ir
    exact ⟨ol,_,cl,h,rfl⟩
   have lbr:=ir.1
   rw [<- hnr] at lbr
   have NP:=hideR hnp
   have NR:=hideR hnr
   have HXK:=hideR hxk
   clear hx h2 h3 hxk hnp hnr ip ir
   by_cases hb1:4096<np'
   ·have t1:decide ((4096:Int)<(np':Int))=true:=decide_eq_true (by omega)
    obtain rfl:=RT.out (fun h=>by have:=(HIFF.out.1 h).2.1 x HXM.out;rw [<- NP.out] at this;omega)
    clear RT RF HIFF HXM
    go_wp2
    go_ret
    exact ⟨rfl,QB.out⟩
   have t1:decide ((4096:Int)<(np':Int))=false:=decide_eq_false (by omega)
   by_cases hb2:4096<nr'
   ·have t2:decide ((4096:Int)<(nr':Int))=true:=decide_eq_true (by omega)
    obtain rfl:=RT.out (fun h=>by have:=(HIFF.out.1 h).2.1 x HXM.out;rw [<- NR.out] at this;omega)
    clear RT RF HIFF HXM
    go_wp2
    go_ret
    exact ⟨rfl,QB.out⟩
   have t2:decide ((4096:Int)<(nr':Int))=false:=decide_eq_false (by omega)
   have HF2:=hideR (mem_on (p:=fun x=>x.params.length<=4096/\x.results.length<=4096) HF.out HXK.out ⟨by rw [<- NP.out];omega,by rw [<- NR.out];omega⟩)
   clear HF NP NR HXK HXM hI
   go_wp2
   go_roundw
   case rel=>exact ⟨j+1,by omega,by go_num,HF2,trivial⟩
   case measure=>simp [RowKit.intOf];omega
  obtain rfl:n0=j:=by omega
  obtain ⟨wb,rfl⟩:∃wb,wb=wr:=⟨_,rfl⟩
  have F1:=HF
  clear HF
  go_wp2_with fail
  go_loopw [4] (fun i wr=>∃j:Nat,j<=n8/\i=.int .i64 j/\Hid (∀t y,t<j->m.elems[t]?=some y->y.funcs.length<=4096)/\wr=wb) (fun i _=>n8-(RowKit.intOf i).toNat)
  case atStart=>exact ⟨0,by omega,rfl,hideR (fun t y ht=>by omega),rfl⟩
  case round =>
   obtain ⟨j2,hj2,rfl,HF,rfl⟩:=hrel
   by_cases hgo:j2<n8
   ·obtain ⟨b,off,cap2,hv2,hx⟩:=Row.some ((HM.out.on QB.out).elems) (by omega)
    injection hv2 with ho h2 h3
    subst ho
    obtain ⟨x,hxk⟩:∃x,m.elems[j2]?=some x:=⟨_,List.getElem?_eq_getElem (by omega)⟩
    have hI:=hx j2 x hxk
    have HXM:=hideR (List.mem_of_getElem? hxk)
    obtain ⟨vp,kp,ip⟩:=hI.funcs
    obtain ⟨op',np',cp',rfl,hnp⟩:∃ol nl cl,vp=.slice ol nl cl/\nl=x.funcs.length:=by
     obtain ⟨ol,cl,h⟩:=Row.len ip
     exact ⟨ol,_,cl,h,rfl⟩
    have lbp:=ip.1
    rw [<- hnp] at lbp
    have NP:=hideR hnp
    have HXK:=hideR hxk
    clear hx h2 h3 hxk hnp ip
    by_cases hb1:4096<np'
    ·have t1:decide ((4096:Int)<(np':Int))=true:=decide_eq_true (by omega)
     obtain rfl:=RT.out (fun h=>by have:=(HIFF.out.1 h).2.2.2.1 x HXM.out;rw [<- NP.out] at this;omega)
     clear RT RF HIFF HXM
     go_wp2
     go_ret
     exact ⟨rfl,QB.out⟩
    have t1:decide ((4096:Int)<(np':Int))=false:=decide_eq_false (by omega)
    have HF2:=hideR (mem_on (p:=fun x=>x.funcs.length<=4096) HF.out HXK.out (by rw [<- NP.out];omega))
    clear HF NP HXK HXM hI
    go_wp2
    go_roundw
    case rel=>exact ⟨j2+1,by omega,by go_num,HF2,trivial⟩
    case measure=>simp [RowKit.intOf];omega
   obtain rfl:n8=j2:=by omega
   obtain ⟨wb,rfl⟩:∃wb,wb=wr:=⟨_,rfl⟩
   have F2:=HF
   clear HF
   go_wp2_with fail
   go_loopw [5,6] (fun c i wr=>∃j s:Nat,j<=n9/\s<=262144/\i=.int .i64 j/\c=.int .i64 s/\Hid (room 262144 m.datas=room (262144-s) (m.datas.drop j))/\wr=wb) (fun _ i _=>n9-(RowKit.intOf i).toNat)
   case atStart=>exact ⟨0,0,by omega,by omega,rfl,rfl,hideR rfl,rfl⟩
   case round =>
    obtain ⟨j3,s,hj3,hs,rfl,rfl,HF,rfl⟩:=hrel
    by_cases hgo:j3<n9
    ·obtain ⟨b,off,cap2,hv2,hx⟩:=Row.some ((HM.out.on QB.out).datas) (by omega)
     injection hv2 with ho h2 h3
     subst ho
     obtain ⟨x,hxk⟩:∃x,m.datas[j3]?=some x:=⟨_,List.getElem?_eq_getElem (by omega)⟩
     have hI:=hx j3 x hxk
     have HXM:=hideR (List.mem_of_getElem? hxk)
     have kb:=hI.bytes
     have hz:=HZ.out x HXM.out
     have HON:=hideR (HF.out.trans (room_on hxk))
     clear hx h2 h3 hxk hI HF
     generalize hsx:x.bytes.size=sx at *
     by_cases hb1:262144<s+sx
     ·have HN:Hid (room 262144 m.datas=false):=hideR (by rw [HON.out,decide_eq_false (by omega)];rfl)
      obtain rfl:=RT.out (fun h=>by have:=(HIFF.out.1 h).2.2.2.2;rw [HN.out] at this;cases this)
      clear RT RF HIFF HXM HON HN
      go_wp2
      go_ret
      exact ⟨rfl,QB.out⟩
     have HF2:Hid (room 262144 m.datas=room (262144-(s+sx)) (m.datas.drop (j3+1))):=hideR (by rw [HON.out,decide_eq_true (by omega),Bool.true_and,show 262144-s-sx=262144-(s+sx) by omega])
     clear HON HXM
     go_wp2
     go_roundw
     case rel=>exact ⟨j3+1,s+sx,by omega,by omega,by go_num,by go_num,HF2,trivial⟩
     case measure=>simp [RowKit.intOf];omega
    obtain rfl:n9=j3:=by omega
    obtain ⟨wb,rfl⟩:∃wb,wb=wr:=⟨_,rfl⟩
    have F3:Hid (room 262144 m.datas=true):=hideR (by rw [HF.out,room_end (by omega)])
    clear HF
    go_wp2_with fail
    go_loopw [7] (fun i wr=>∃j:Nat,j<=n2/\i=.int .i64 j/\Hid (∀t y,t<j->m.funcs[t]?=some y->y.locals.length<=256)/\wr=wb) (fun i _=>n2-(RowKit.intOf i).toNat)
    case atStart=>exact ⟨0,by omega,rfl,hideR (fun t y ht=>by omega),rfl⟩
    case round =>
     obtain ⟨j4,hj4,rfl,HF,rfl⟩:=hrel
     by_cases hgo:j4<n2
     ·obtain ⟨b,off,cap2,hv2,hx⟩:=Row.some ((HM.out.on QB.out).funcs) (by omega)
      injection hv2 with ho h2 h3
      subst ho
      obtain ⟨x,hxk⟩:∃x,m.funcs[j4]?=some x:=⟨_,List.getElem?_eq_getElem (by omega)⟩
      have hI:=hx j4 x hxk
      have HXM:=hideR (List.mem_of_getElem? hxk)
      obtain ⟨vp,kp,ip⟩:=hI.locals
      obtain ⟨op',np',cp',rfl,hnp⟩:∃ol nl cl,vp=.slice ol nl cl/\nl=x.locals.length:=by
       obtain ⟨ol,cl,h⟩:=Row.len ip
       exact ⟨ol,_,cl,h,rfl⟩
      have lbp:=ip.1
      rw [<- hnp] at lbp
      have NP:=hideR hnp
      have HXK:=hideR hxk
      clear hx h2 h3 hxk hnp ip
      by_cases hb1:256<np'
      ·have t1:decide ((256:Int)<(np':Int))=true:=decide_eq_true (by omega)
       obtain rfl:=RT.out (fun h=>by have:=(HIFF.out.1 h).2.2.1 x HXM.out;rw [<- NP.out] at this;omega)
       clear RT RF HIFF HXM
       go_wp2
       go_ret
       exact ⟨rfl,QB.out⟩
      have t1:decide ((256:Int)<(np':Int))=false:=decide_eq_false (by omega)
      have HF2:=hideR (mem_on (p:=fun x=>x.locals.length<=256) HF.out HXK.out (by rw [<- NP.out];omega))
      clear HF NP HXK HXM hI
      go_wp2
      go_roundw
      case rel=>exact ⟨j4+1,by omega,by go_num,HF2,trivial⟩
      case measure=>simp [RowKit.intOf];omega
     obtain rfl:n2=j4:=by omega
     have hfin:fewM m=true:=HIFF.out.2 ⟨by have:=HLN.out;omega,mem_all hn0 F1.out,mem_all hn2 HF.out,mem_all hn8 F2.out,F3.out⟩
     obtain rfl:=RF.out hfin
     clear hfin HF RT RF HIFF
     go_wp2
     go_ret
     exact ⟨rfl,QB.out⟩
end Go.Proofs.YtlcpagiljfpbpaaGreatDoor

namespace Go.Proofs.YtlcpagiljfpbpaaGreatDoor
open Go.RowKit Rep
set_option linter.unusedVariables false
namespace Rep
theorem all_at {α:Type} {p:α->Bool} {l:List α} {j:Nat} {x:α} {R:Bool} (hx:l[j]?=some x) (h:R=(l.drop j).all p):R=(p x && (l.drop (j+1)).all p):=by
 have hl:j<l.length:=(List.getElem?_eq_some_iff.1 hx).1
 have he:l[j]=x:=(List.getElem?_eq_some_iff.1 hx).2
 rw [h,List.drop_eq_getElem_cons hl,he];rfl
theorem all_past {α:Type} {p:α->Bool} {l:List α} {j:Nat} {R:Bool} (hj:l.length<=j) (h:R=(l.drop j).all p):R=true:=by
 rw [h,List.drop_of_length_le hj];rfl
end Rep
set_option maxHeartbeats 2000000 in
theorem refLimits (v:Value) (l:List Lim) (w:World) (hAt:Row 3 (LimAt w) v l) :
  Calls Tryz.prog 103 #[v] w fun e w'=>e=.returned (.bool (l.all shL))/\w'=w:=by
 have hlen:=hAt.1
 obtain ⟨o,cap,hv⟩:=Row.len hAt
 have HA:=hideR hAt
 subst hv
 obtain ⟨R,hR⟩:∃R,R=l.all shL:=⟨_,rfl⟩
 rw [<- hR]
 have HR:Hid (R=(l.drop 0).all shL):=hR
 clear hAt hR
 generalize hn:l.length=n at *
 go_enter Tryz.func103,Tryz.ntmps103
 go_wp2_with fail
 go_loopw [3] (fun i wr=>∃j:Nat,j<=n/\i=.int .i64 j/\Hid (R=(l.drop j).all shL)/\wr=w) (fun i _=>n-(RowKit.intOf i).toNat)
 case atStart=>exact ⟨0,by omega,rfl,HR,rfl⟩
 case round =>
  obtain ⟨j,hj,rfl,HK,rfl⟩:=hrel
  by_cases hgo:j<n
  ·obtain ⟨b,off,cap2,hv2,hx⟩:=Row.some HA.out (by omega)
   injection hv2 with ho h2 h3
   subst ho
   obtain ⟨x,hxk⟩:∃x,l[j]?=some x:=⟨_,List.getElem?_eq_getElem (by omega)⟩
   have hI:=hx j x hxk
   have k0:=hI.min
   have k1:=hI.max
   have k2:=hI.has
   have HN:Hid (R=(shL x && (l.drop (j+1)).all shL)):=hideR (all_at hxk HK.out)
   have HSx:Hid (shL x=((idx x.min && (idx x.max && true)) && (x.has || x.max == 0))):=hideR rfl
   clear hx hxk hI h2 h3 HK
   rw [HSx.out] at HN
   clear HSx
   go_wp2_with fail
   refine (refIndex _ _).mono ?_
   rintro e u ⟨rfl,rfl⟩
   generalize idx x.min=t1 at *
   cases t1 with
   | false =>
    obtain rfl:R=false:=HN.out
    clear HN
    go_wp2
    go_ret
    exact ⟨rfl,rfl⟩
   | true =>
    go_wp2_with fail
    refine (refIndex _ _).mono ?_
    rintro e u ⟨rfl,rfl⟩
    generalize idx x.max=t2 at *
    cases t2 with
    | false =>
     obtain rfl:R=false:=HN.out
     clear HN
     go_wp2
     go_ret
     exact ⟨rfl,rfl⟩
    | true =>
     generalize hxh:x.has=hs at *
     generalize hxm:x.max=mx at *
     cases hs with
     | true =>
      have HN2:Hid (R=(l.drop (j+1)).all shL):=hideR (by rw [HN.out];rfl)
      clear HN
      go_wp2
      go_roundw
      case rel=>exact ⟨j+1,by omega,by go_num,HN2,trivial⟩
      case measure=>simp [RowKit.intOf];omega
     | false =>
      by_cases hm:mx=0
      ·subst hm
       have HN2:Hid (R=(l.drop (j+1)).all shL):=hideR (by rw [HN.out];rfl)
       clear HN
       go_wp2
       go_roundw
       case rel=>exact ⟨j+1,by omega,by go_num,HN2,trivial⟩
       case measure=>simp [RowKit.intOf];omega
      ·have hmf:(mx == 0)=false:=by rw [beq_eq_false_iff_ne];exact hm
       have hmt:(mx != 0)=true:=by rw [bne_iff_ne];exact hm
       obtain rfl:R=false:=by rw [HN.out,hmf];rfl
       clear HN
       go_wp2
       go_ret
       exact ⟨rfl,rfl⟩
  ·obtain rfl:R=true:=all_past (by omega) HK.out
   clear HK
   go_wp2
   go_ret
   exact ⟨rfl,rfl⟩
end Go.Proofs.YtlcpagiljfpbpaaGreatDoor

