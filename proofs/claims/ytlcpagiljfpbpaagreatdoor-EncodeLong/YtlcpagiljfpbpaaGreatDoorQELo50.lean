/- Texts that the claim needs. -/
import Derived.Test.YtlcpagiljfpbpaaGreatDoorQELo47
import Derived.Test.YtlcpagiljfpbpaaGreatDoorQELo1
import Derived.Test.YtlcpagiljfpbpaaGreatDoorQELo22
import Derived.Test.YtlcpagiljfpbpaaGreatDoorQELo44
import Derived.Test.YtlcpagiljfpbpaaGreatDoorQELo49
namespace Go.Proofs.YtlcpagiljfpbpaaGreatDoor
open Go.RowKit Rep
set_option linter.unusedVariables false
namespace Rep
theorem retI {a b:Int} (h:a=b):Ending.returned (.int .i64 a)=.returned (.int .i64 b):=by rw [h]
def cntF (d:Nat):List (Fun d)->Nat->Nat
 | [],c=>c
 | f :: r,c=>if c<=65536 then cntF d r (cnt d f.body c) else c
theorem cntF_end {d:Nat} {l:List (Fun d)} {k c:Nat} (hk:¬ (k<l.length/\c<=65536)):cntF d (l.drop k) c=c:=by
 by_cases hl:k<l.length
 ·have hc:¬ c<=65536:=fun hc=>hk ⟨hl,hc⟩
  rw [List.drop_eq_getElem_cons hl]
  unfold cntF
  rw [if_neg hc]
 ·rw [List.drop_of_length_le (by omega)];rfl
theorem cntF_on {d:Nat} {l:List (Fun d)} {k c:Nat} {x:Fun d} (hx:l[k]?=some x) (hc:c<=65536):cntF d (l.drop k) c=cntF d (l.drop (k+1)) (cnt d x.body c):=by
 have hl:k<l.length:=(List.getElem?_eq_some_iff.1 hx).1
 have he:l[k]=x:=(List.getElem?_eq_some_iff.1 hx).2
 rw [List.drop_eq_getElem_cons hl,he]
 conv=>lhs;unfold cntF
 rw [if_pos hc]
end Rep
set_option maxHeartbeats 2000000 in
theorem refCountM (d:Nat) (v0 v1 v2 v3 v4 v5 v6 v7 v8 v9:Value) (l:List (Fun d)) (w:World) (hAt:Row 3 (FunAt w d) v2 l) (hT:TenSlices v0 v1 v3 v4 v5 v6 v7 v8 v9) :
  Calls Tryz.prog 58 #[.agg #[v0,v1,v2,v3,v4,v5,v6,v7,v8,v9]] w fun e w'=>e=.returned (.int .i64 (min (cntF d l 0) 65537:Nat))/\Below w.heap.size w w':=by
 have hlen:=hAt.1
 obtain ⟨o2,c2,hv⟩:=Row.len hAt
 have HA:=hideM hAt
 subst hv
 obtain ⟨⟨o0,m0,c0,rfl⟩,⟨o1,m1,c1,rfl⟩,⟨o3,m3,c3,rfl⟩,⟨o4,m4,c4,rfl⟩,⟨o5,m5,c5,rfl⟩,⟨o6,m6,c6,rfl⟩,⟨o7,m7,c7,rfl⟩,⟨o8,m8,c8,rfl⟩,⟨o9,m9,c9,rfl⟩⟩:=hT
 have HB0:=hideM (Box.start w 32 (.slice o0 m0 c0) (.slice o1 m1 c1) (.slice o2 l.length c2) (.slice o3 m3 c3) (.slice o4 m4 c4) (.slice o5 m5 c5) (.slice o6 m6 c6) (.slice o7 m7 c7) (.slice o8 m8 c8) (.slice o9 m9 c9))
 obtain ⟨R,hR⟩:∃R,R=cntF d l 0:=⟨_,rfl⟩
 rw [<- hR]
 have HR:Hid (R=cntF d (l.drop 0) 0):=hR
 clear hAt hR
 generalize hn:l.length=n at *
 go_enter Tryz.func58,Tryz.ntmps58
 go_wp2_with fail
 go_loopw [3,4] (fun u i wr=>∃k ck:Nat,k<=n/\ck<=65537/\u=.int .i64 ck/\i=.int .i64 k/\Hid (R=cntF d (l.drop k) ck)/\Hid (Box w (.slice o0 m0 c0) (.slice o1 m1 c1) (.slice o2 n c2) (.slice o3 m3 c3) (.slice o4 m4 c4) (.slice o5 m5 c5) (.slice o6 m6 c6) (.slice o7 m7 c7) (.slice o8 m8 c8) (.slice o9 m9 c9) wr)) (fun _ i _=>n-(RowKit.intOf i).toNat)
 case atStart=>exact ⟨0,0,by omega,by omega,rfl,rfl,HR,HB0⟩
 case round =>
  obtain ⟨k,ck,hk,hck,rfl,rfl,HK,HBX⟩:=hrel
  have q2:=HBX.out.c2
  clear HB0 HR
  by_cases hgo:k<n/\ck<=65536
  ·obtain ⟨b,off,cap3,hv2,hx⟩:=Row.some (HA.out.imp fun _ _ _ _=>FunAt.on HBX.out.bel) (by omega)
   injection hv2 with ho h2 h3
   subst ho
   obtain ⟨x,hxk⟩:∃x,l[k]?=some x:=⟨_,List.getElem?_eq_getElem (by omega)⟩
   obtain ⟨bv,kb,ab⟩:=(hx k x hxk).body
   have HN:=hideM (HK.out.trans (cntF_on hxk hgo.2))
   have hle:=cnt_le d x.body ck
   have I1:=hideM (refCount d bv x.body ck wr ab hck)
   clear hx hxk HK h2 h3 ab
   generalize cnt d x.body ck=c1 at *
   have hg1:k<n:=hgo.1
   have hg2:ck<=65536:=hgo.2
   have hd2:decide ((ck:Int)<=65536)=true:=by simp;omega
   clear hgo
   go_wp2_with fail
   refine I1.out.mono ?_
   rintro e u ⟨rfl,mm,rfl⟩
   have HBN:=hideM (HBX.out.on (below_drewN' wr mm))
   clear q2 kb
   go_wp2
   go_roundw
   case rel=>exact ⟨k+1,c1,by omega,by omega,rfl,by go_num,HN,HBN⟩
   case measure=>simp [RowKit.intOf];omega
  ·have HE:=hideM (HK.out.trans (cntF_end (by omega)))
   clear HK
   by_cases hkn:k<n
   ·have hb:decide ((ck:Int)<=65536)=false:=by simp;omega
    go_wp2
    all_goals go_ret
    all_goals refine ⟨retI ?_,HBX.out.bel⟩
    all_goals rw [HE.out]
    all_goals first|omega|(simp;omega)|trace_state
   ·go_wp2
    all_goals go_ret
    all_goals refine ⟨retI ?_,HBX.out.bel⟩
    all_goals rw [HE.out]
    all_goals first|omega|(simp;omega)|trace_state
end Go.Proofs.YtlcpagiljfpbpaaGreatDoor

namespace Go.Proofs.YtlcpagiljfpbpaaGreatDoor
open Go.RowKit Rep
set_option linter.unusedVariables false
namespace Rep
theorem hideD {p:Prop} (h:p):Hid p:=h
def lab:(d:Nat)->IL d->Bool
 | 0,_=>false
 | d+1,l=>List.any (α:=Ins (IL d)) l fun x=>decide (4096<x.labels.length) || lab d x.body || lab d x.els
def dp:(d:Nat)->IL d->Nat->Bool
 | 0,_,_=>false
 | d+1,l,at_=>(decide (0<List.length (α:=Ins (IL d)) l) && decide (64<at_)) || List.any (α:=Ins (IL d)) l fun x=>dp d x.body (at_+1) || dp d x.els (at_+1)
theorem any_end {α:Type} {p:α->Bool} {l:List α} {k:Nat} {r:Bool} (hk:¬ k<l.length) (h:r=(l.drop k).any p):r=false:=by
 rw [h,List.drop_of_length_le (by omega)];rfl
theorem any_on {α:Type} {p:α->Bool} {l:List α} {k:Nat} {r:Bool} {x:α} (hx:l[k]?=some x) (h:r=(l.drop k).any p):r=(p x || (l.drop (k+1)).any p):=by
 have hl:k<l.length:=(List.getElem?_eq_some_iff.1 hx).1
 have he:l[k]=x:=(List.getElem?_eq_some_iff.1 hx).2
 rw [h,List.drop_eq_getElem_cons hl,he,List.any_cons]
end Rep
set_option maxHeartbeats 1000000 in
theorem refLabels0 (o:Option Addr) (cap:Nat) (w:World) :
  Calls Tryz.prog 59 #[.slice o 0 cap] w fun e w'=>e=.returned (.bool false)/\w'=w:=by
 go_enter Tryz.func59,Tryz.ntmps59
 go_wp2_with fail
 go_loopw [3] (fun i wr=>i=.int .i64 0/\wr=w) (fun _ _=>0)
 case atStart=>exact ⟨rfl,rfl⟩
 case round =>
  obtain ⟨rfl,rfl⟩:=hrel
  go_wp2
  go_ret
  exact ⟨rfl,rfl⟩
def LabelsSays (d:Nat):Prop:=∀(v:Value) (l:IL d) (w:World),At w d v l ->
  Calls Tryz.prog 59 #[v] w fun e w'=>e=.returned (.bool (lab d l))/\w'=w
set_option maxHeartbeats 1000000 in
theorem refLabelsS (d:Nat) (IH:LabelsSays d) (v:Value) (l:List (Ins (IL d))) (w:World) (hAt:Row 7 (InsAt w (At w d)) v l) :
  Calls Tryz.prog 59 #[v] w fun e w'=>e=.returned (.bool (l.any fun x=>decide (4096<x.labels.length) || lab d x.body || lab d x.els))/\w'=w:=by
 have hlen:=hAt.1
 by_cases hz:l.length=0
 ·obtain ⟨o,cap,rfl⟩:=hAt.len
  rw [hz]
  obtain rfl:l = []:=List.length_eq_zero_iff.1 hz
  exact refLabels0 o cap w
 obtain ⟨b,off,cap,rfl,hx⟩:=hAt.some (by omega)
 obtain ⟨R,hR⟩:∃R,R=l.any fun x=>decide (4096<x.labels.length) || lab d x.body || lab d x.els:=⟨_,rfl⟩
 rw [<- hR]
 have HR:Hid (R=(l.drop 0).any fun x=>decide (4096<x.labels.length) || lab d x.body || lab d x.els):=hR
 have HX:=hideD hx
 clear hx hAt hR
 generalize hn:l.length=n at *
 go_enter Tryz.func59,Tryz.ntmps59
 go_wp2_with fail
 go_loopw [3] (fun i wr=>∃k:Nat,k<=n/\i=.int .i64 k/\R=((l.drop k).any fun x=>decide (4096<x.labels.length) || lab d x.body || lab d x.els)/\wr=w) (fun i _=>n-(RowKit.intOf i).toNat)
 case atStart=>exact ⟨0,by omega,rfl,HR.out,rfl⟩
 case round =>
  obtain ⟨k,hk,rfl,hrr,rfl⟩:=hrel
  have HK:=hideD hrr
  clear hrr
  by_cases hgo:k<n
  ·obtain ⟨x,hxk⟩:∃x,l[k]?=some x:=⟨_,List.getElem?_eq_getElem (by omega)⟩
   have hI:=HX.out k x hxk
   obtain ⟨vl,cl,al⟩:=hI.labels
   obtain ⟨ol,capl,rfl⟩:=al.len
   obtain ⟨vb,cb,ab⟩:=hI.body
   obtain ⟨ve,ce,ae⟩:=hI.els
   have HN:=any_on hxk HK.out
   have i1:=hideD (IH vb x.body wr ab)
   have i2:=hideD (IH ve x.els wr ae)
   have hll:=al.1
   clear hI hxk ab ae HK al
   generalize x.labels.length=nl at *
   by_cases h1:4096<nl
   ·have hfin:R=true:=by rw [HN,decide_eq_true h1];rfl
    clear HN
    go_wp2
    go_ret
    exact ⟨rfl,rfl⟩
   ·rw [decide_eq_false h1,Bool.false_or] at HN
    generalize lab d x.body=r1 at *
    generalize lab d x.els=r2 at *
    have HN':=hideD HN
    clear HN
    go_wp2_with fail
    refine i1.out.mono ?_
    rintro e w1 ⟨rfl,rfl⟩
    cases r1
    ·go_wp2_with fail
     refine i2.out.mono ?_
     rintro e w1 ⟨rfl,rfl⟩
     cases r2
     ·go_wp2
      go_roundw
      case rel=>exact ⟨k+1,by omega,by go_num,by rw [HN'.out];rfl,trivial⟩
      case measure=>simp [RowKit.intOf];omega
     ·have hfin:R=true:=by rw [HN'.out];rfl
      go_wp2
      go_ret
      exact ⟨by rw [hfin];rfl,rfl⟩
    ·have hfin:R=true:=by rw [HN'.out];rfl
     go_wp2
     go_ret
     exact ⟨by rw [hfin];rfl,rfl⟩
  ·have HE:=any_end (by omega) HK.out
   clear HK
   go_wp2
   go_ret
   exact ⟨by rw [HE];rfl,rfl⟩
theorem refLabels:∀(d:Nat),LabelsSays d
 | 0=>fun v l w ⟨o,cap,hv⟩=>by
  subst hv
  exact refLabels0 o cap w
 | d+1=>fun v l w hAt=>refLabelsS d (refLabels d) v l w hAt
set_option maxHeartbeats 1000000 in
theorem refDeep0 (o:Option Addr) (cap at_:Nat) (w:World) :
  Calls Tryz.prog 60 #[.slice o 0 cap,.int .i64 at_] w fun e w'=>e=.returned (.bool false)/\w'=w:=by
 go_enter Tryz.func60,Tryz.ntmps60
 go_wp2_with fail
 go_loopw [5] (fun i wr=>i=.int .i64 0/\wr=w) (fun _ _=>0)
 case atStart=>exact ⟨rfl,rfl⟩
 case round =>
  obtain ⟨rfl,rfl⟩:=hrel
  go_wp2
  go_ret
  exact ⟨rfl,rfl⟩
def DeepSays (d:Nat):Prop:=∀(v:Value) (l:IL d) (at_:Nat) (w:World),At w d v l->at_<=65 ->
  Calls Tryz.prog 60 #[v,.int .i64 at_] w fun e w'=>e=.returned (.bool (dp d l at_))/\w'=w
set_option maxHeartbeats 1000000 in
theorem refDeepS (d:Nat) (IH:DeepSays d) (v:Value) (l:List (Ins (IL d))) (at_:Nat) (w:World) (hAt:Row 7 (InsAt w (At w d)) v l) (ha:at_<=65) :
  Calls Tryz.prog 60 #[v,.int .i64 at_] w fun e w'=>e=.returned (.bool ((decide (0<l.length) && decide (64<at_)) || l.any fun x=>dp d x.body (at_+1) || dp d x.els (at_+1)))/\w'=w:=by
 have hlen:=hAt.1
 by_cases hz:l.length=0
 ·obtain ⟨o,cap,rfl⟩:=hAt.len
  rw [hz]
  obtain rfl:l = []:=List.length_eq_zero_iff.1 hz
  exact refDeep0 o cap at_ w
 obtain ⟨b,off,cap,rfl,hx⟩:=hAt.some (by omega)
 have hpos:decide (0<l.length)=true:=by simp;omega
 rw [hpos,Bool.true_and]
 by_cases h64:64<at_
 ·rw [decide_eq_true h64,Bool.true_or]
  clear hx hAt hpos
  generalize l.length=n at *
  go_enter Tryz.func60,Tryz.ntmps60
  go_wp2
  go_ret
  exact ⟨rfl,rfl⟩
 rw [decide_eq_false h64,Bool.false_or]
 obtain ⟨R,hR⟩:∃R,R=l.any fun x=>dp d x.body (at_+1) || dp d x.els (at_+1):=⟨_,rfl⟩
 rw [<- hR]
 have HR:Hid (R=(l.drop 0).any fun x=>dp d x.body (at_+1) || dp d x.els (at_+1)):=hR
 have HX:=hideD hx
 clear hx hAt hR hpos
 have e1:((at_+1:Nat):Int)=(at_:Int)+1:=by omega
 generalize hn:l.length=n at *
 go_enter Tryz.func60,Tryz.ntmps60
 go_wp2_with fail
 go_loopw [5] (fun i wr=>∃k:Nat,k<=n/\i=.int .i64 k/\R=((l.drop k).any fun x=>dp d x.body (at_+1) || dp d x.els (at_+1))/\wr=w) (fun i _=>n-(RowKit.intOf i).toNat)
 case atStart=>exact ⟨0,by omega,rfl,HR.out,rfl⟩
 case round =>
  obtain ⟨k,hk,rfl,hrr,rfl⟩:=hrel
  have HK:=hideD hrr
  clear hrr
  by_cases hgo:k<n
  ·obtain ⟨x,hxk⟩:∃x,l[k]?=some x:=⟨_,List.getElem?_eq_getElem (by omega)⟩
   have hI:=HX.out k x hxk
   obtain ⟨vb,cb,ab⟩:=hI.body
   obtain ⟨ve,ce,ae⟩:=hI.els
   have HN:=any_on hxk HK.out
   have j1:=IH vb x.body (at_+1) wr ab (by omega)
   have j2:=IH ve x.els (at_+1) wr ae (by omega)
   rw [e1] at j1 j2
   have i1:=hideD j1
   have i2:=hideD j2
   clear hI hxk ab ae HK j1 j2 e1
   generalize dp d x.body (at_+1)=r1 at *
   generalize dp d x.els (at_+1)=r2 at *
   have HN':=hideD HN
   clear HN
   go_wp2_with fail
   refine i1.out.mono ?_
   rintro e w1 ⟨rfl,rfl⟩
   cases r1
   ·go_wp2_with fail
    refine i2.out.mono ?_
    rintro e w1 ⟨rfl,rfl⟩
    cases r2
    ·go_wp2
     go_roundw
     case rel=>exact ⟨k+1,by omega,by go_num,by rw [HN'.out];rfl,trivial⟩
     case measure=>simp [RowKit.intOf];omega
    ·have hfin:R=true:=by rw [HN'.out];rfl
     go_wp2
     go_ret
     exact ⟨by rw [hfin];rfl,rfl⟩
   ·have hfin:R=true:=by rw [HN'.out];rfl
    go_wp2
    go_ret
    exact ⟨by rw [hfin];rfl,rfl⟩
  ·have HE:=any_end (by omega) HK.out
   clear HK
   go_wp2
   go_ret
   exact ⟨by rw [HE];rfl,rfl⟩
theorem refDeep:∀(d:Nat),DeepSays d
 | 0=>fun v l at_ w ⟨o,cap,hv⟩ _=>by
  subst hv
  exact refDeep0 o cap at_ w
 | d+1=>fun v l at_ w hAt ha=>refDeepS d (refDeep d) v l at_ w hAt ha
end Go.Proofs.YtlcpagiljfpbpaaGreatDoor

namespace Go.Proofs.YtlcpagiljfpbpaaGreatDoor
open Go.RowKit Rep
namespace Rep
theorem cntL_stop {α:Type} (f:α->Nat->Nat) (l:List (Ins α)):cntL f l 65537=65537:=by cases l<;>rfl
theorem cnt_stop:∀(d:Nat) (l:IL d),cnt d l 65537=65537
 | 0,_=>rfl
 | d+1,l=>cntL_stop (cnt d) l
theorem ite_some {p:Prop} [Decidable p] {α:Type} {a:α} {β:Type} (f:α->Option β):(if p then some a else none).bind f=if p then f a else none:=by split<;>rfl
theorem goL_cnt {α:Type} (f:α->Nat->Nat) (hf:∀x,f x 65537=65537) (hb:∀x c,f x c<=max c 65537) (sub:α->Nat->Option Nat) (hs:∀y c,c<=65536->sub y c=if f y c<=65536 then some (f y c) else none)
  (st:Nat->Ins α->Option Nat) (hst:∀c x,st c x=if c+1<=65536 then some (c+1) else none) :
  ∀(l:List (Ins α)) (c:Nat),c<=65536->goL st sub l c=if cntL f l c<=65536 then some (cntL f l c) else none
 | [],c,hc=>by
  show some c=if c<=65536 then some c else none
  rw [if_pos hc]
 | x :: r,c,hc=>by
  have e:cntL f (x :: r) c=cntL f r (f x.els (f x.body (c+1))):=if_pos hc
  show (st c x).bind _=_
  rw [hst,e,ite_some]
  by_cases h1:c+1<=65536
  ·rw [if_pos h1,hs _ _ h1,ite_some]
   by_cases h2:f x.body (c+1)<=65536
   ·rw [if_pos h2,hs _ _ h2,ite_some]
    by_cases h3:f x.els (f x.body (c+1))<=65536
    ·rw [if_pos h3]
     exact goL_cnt f hf hb sub hs st hst r _ h3
    ·have h4:f x.els (f x.body (c+1))=65537:=by have:=hb x.els (f x.body (c+1));omega
     rw [if_neg h3,h4,cntL_stop];rfl
   ·have h4:f x.body (c+1)=65537:=by have:=hb x.body (c+1);omega
    rw [if_neg h2,h4,hf,cntL_stop];rfl
  ·have h4:c+1=65537:=by omega
   rw [if_neg h1,h4,hf,hf,cntL_stop];rfl
theorem goI_cnt:∀(d:Nat) (l:IL d) (k c:Nat),c<=65536->goI stepCount d l k c=if cnt d l c<=65536 then some (cnt d l c) else none
 | 0,_,_,c,hc=>by
  show some c=if c<=65536 then some c else none
  rw [if_pos hc]
 | d+1,l,k,c,hc=>goL_cnt (cnt d) (cnt_stop d) (cnt_le d) _ (fun y c hc=>goI_cnt d y (k+1) c hc) _ (fun _ _=>rfl) l c hc
theorem goF_cnt (d:Nat):∀(l:List (Fun d)) (c:Nat),c<=65536->goF stepCount d l c=if cntF d l c<=65536 then some (cntF d l c) else none
 | [],c,hc=>by
  show some c=if c<=65536 then some c else none
  rw [if_pos hc]
 | x :: r,c,hc=>by
  have e:cntF d (x :: r) c=cntF d r (cnt d x.body c):=if_pos hc
  show (goI stepCount d x.body 0 c).bind _=_
  rw [goI_cnt d _ _ _ hc,e,ite_some]
  by_cases h1:cnt d x.body c<=65536
  ·rw [if_pos h1];exact goF_cnt d r _ h1
  ·have h4:cnt d x.body c=65537:=by have:=cnt_le d x.body c;omega
   rw [if_neg h1,h4]
   have:cntF d r 65537=65537:=by cases r<;>rfl
   rw [this];rfl
def allL {α:Type} (p:Ins α->Bool) (sub:α->Bool) (l:List (Ins α)):Bool:=l.all fun x=>p x && (sub x.body && sub x.els)
def allI (p:Sn->Nat->Bool):(d:Nat)->IL d->Nat->Bool
 | 0,_,_=>true
 | d+1,l,k=>allL (fun x=>p (sn x) k) (fun y=>allI p d y (k+1)) l
theorem goL_all {α:Type} (p:Ins α->Bool) (sub:α->Bool) (st:Unit->Ins α->Option Unit) (hst:∀u x,st u x=if p x=true then some () else none) (su:α->Unit->Option Unit) (hsu:∀y u,su y u=if sub y=true then some () else none) :
  ∀(l:List (Ins α)) (u:Unit),goL st su l u=if allL p sub l=true then some () else none
 | [],_=>rfl
 | x :: r,u=>by
  show (st u x).bind _=_
  have e:allL p sub (x :: r)=((p x && (sub x.body && sub x.els)) && allL p sub r):=rfl
  rw [hst,e,ite_some]
  cases p x
  ·rfl
  ·rw [if_pos rfl,hsu,ite_some]
   cases sub x.body
   ·rfl
   ·rw [if_pos rfl,hsu,ite_some]
    cases sub x.els
    ·rfl
    ·rw [if_pos rfl,goL_all p sub st hst su hsu r];rfl
theorem goI_all (p:Sn->Nat->Bool) (st:Unit->Sn->Nat->Option Unit) (hst:∀u x k,st u x k=if p x k=true then some () else none):∀(d:Nat) (l:IL d) (k:Nat) (u:Unit),goI st d l k u=if allI p d l k=true then some () else none
 | 0,_,_,_=>rfl
 | d+1,l,k,u=>goL_all (fun x=>p (sn x) k) (fun y=>allI p d y (k+1)) _ (fun u x=>hst u (sn x) k) _ (fun y u=>goI_all p st hst d y (k+1) u) l u
theorem goF_all (p:Sn->Nat->Bool) (st:Unit->Sn->Nat->Option Unit) (hst:∀u x k,st u x k=if p x k=true then some () else none) (d:Nat):∀(l:List (Fun d)) (u:Unit),goF st d l u=if (l.all fun f=>allI p d f.body 0)=true then some () else none
 | [],_=>rfl
 | x :: r,u=>by
  show (goI st d x.body 0 u).bind _=_
  rw [goI_all p st hst,ite_some,List.all_cons]
  cases allI p d x.body 0
  ·rfl
  ·rw [if_pos rfl,goF_all p st hst d r];rfl
theorem okL_all:∀(d:Nat) (l:IL d) (k:Nat),allI (fun x _=>okS x) d l k=okL d l
 | 0,_,_=>rfl
 | d+1,l,k=>by
  show allL _ _ l=List.all (α:=Ins (IL d)) l _
  unfold allL
  congr 1
  funext x
  show (okS (sn x) && (allI (fun x _=>okS x) d x.body (k+1) && allI (fun x _=>okS x) d x.els (k+1)))=_
  rw [okL_all d x.body (k+1),okL_all d x.els (k+1)]
theorem any_not_all {α:Type} {p q:α->Bool} (h:∀x,p x = !q x):∀l:List α,l.any p = !l.all q
 | []=>rfl
 | x :: r=>by rw [List.any_cons,List.all_cons,h x,any_not_all h r,Bool.not_and]
theorem few_not (n:Nat):decide (4096<n) = !few (n:Int):=by
 unfold few
 by_cases h:4096<n
 ·rw [decide_eq_true h,decide_eq_false (by omega)];rfl
 ·rw [decide_eq_false h,decide_eq_true (by omega)];rfl
theorem lab_all:∀(d:Nat) (l:IL d) (k:Nat),lab d l = !allI (fun x _=>few x.labels.length) d l k
 | 0,_,_=>rfl
 | d+1,l,k=>by
  refine any_not_all (fun x=>?_) l
  show (decide (4096<x.labels.length) || lab d x.body || lab d x.els) = !(few x.labels.length && (allI _ d x.body (k+1) && allI _ d x.els (k+1)))
  rw [few_not,lab_all d x.body (k+1),lab_all d x.els (k+1),Bool.not_and,Bool.not_and,Bool.or_assoc]
theorem dp_all:∀(d:Nat) (l:IL d) (k:Nat),dp d l k = !allI (fun _ k=>decide (k<=64)) d l k
 | 0,_,_=>rfl
 | d+1,l,k=>by
  show ((decide (0<List.length (α:=Ins (IL d)) l) && decide (64<k)) || List.any (α:=Ins (IL d)) l fun x=>dp d x.body (k+1) || dp d x.els (k+1)) = !List.all (α:=Ins (IL d)) l _
  have hd:∀x:Ins (IL d),(dp d x.body (k+1) || dp d x.els (k+1)) = !(allI (fun _ k=>decide (k<=64)) d x.body (k+1) && allI (fun _ k=>decide (k<=64)) d x.els (k+1)):=fun x=>by
   rw [dp_all d x.body (k+1),dp_all d x.els (k+1),Bool.not_and]
  by_cases hk:k<=64
  ·rw [decide_eq_false (by omega:¬ 64<k),Bool.and_false,Bool.false_or]
   refine any_not_all (fun x=>?_) l
   show _ = !(decide (k<=64) && _)
   rw [decide_eq_true hk,Bool.true_and]
   exact hd x
  ·rw [decide_eq_true (by omega:64<k),Bool.and_true]
   cases l with
   | nil=>rfl
   | cons x r =>
    have e:List.all (α:=Ins (IL d)) (x :: r) (fun x=>decide (k<=64) && (allI (fun _ k=>decide (k<=64)) d x.body (k+1) && allI (fun _ k=>decide (k<=64)) d x.els (k+1)))=false:=by
     rw [List.all_cons,decide_eq_false hk,Bool.false_and,Bool.false_and]
    have e0:decide (0<List.length (α:=Ins (IL d)) (x :: r))=true:=by simp
    rw [e0,Bool.true_or]
    exact (congrArg (fun b=>!b) e).symm
end Rep
end Go.Proofs.YtlcpagiljfpbpaaGreatDoor

namespace Go.Proofs.YtlcpagiljfpbpaaGreatDoor
open Go.RowKit Rep
set_option linter.unusedVariables false
namespace Rep
theorem nmD_nm (s:ByteArray):nmD s=nm s:=rfl
theorem shD_eq {d:Nat} (m:Mod d):shD m=(shM m && m.funcs.all fun f=>okL d f.body):=by
 rw [Bool.eq_iff_iff]
 unfold shD shM
 simp only [Bool.and_eq_true,List.all_eq_true,dT,dI,dF,dG,dE,dL,dD,dC,shT,shI,shF,shL,shG,shE,cstOk,okS,sn,nmD_nm,List.mem_append,List.mem_singleton,forall_eq,decide_eq_true_iff,and_true]
 constructor
 ·rintro ⟨h1,h2,h3,h4,h5,h6,h7,h8,h9,h10⟩
  refine ⟨⟨h1,fun x hx=>?_,fun x hx=>?_,fun x hx=>?_,h4,fun x hx=>?_,h10,h6,h7⟩,fun x hx=>(h3 x hx).2.2⟩
  ·obtain ⟨a,b,c⟩:=h2 x hx;exact ⟨⟨b,c⟩,a⟩
  ·obtain ⟨a,b,c⟩:=h3 x hx;exact ⟨a,b⟩
  ·rcases hx with hx|hx
   ·exact h8 x hx
   ·exact h9 x hx
  ·obtain ⟨a,b,c⟩:=h5 x hx;exact ⟨a,b,c⟩
 ·rintro ⟨⟨h1,h2,h3,h4,h5,h6,h7,h8,h9⟩,h10⟩
  refine ⟨h1,fun x hx=>?_,fun x hx=>?_,h5,fun x hx=>?_,h8,h9,fun x hx=>h4 x (.inl hx),fun x hx=>h4 x (.inr hx),h7⟩
  ·obtain ⟨⟨a,b⟩,c⟩:=h2 x hx;exact ⟨c,a,b⟩
  ·obtain ⟨a,b⟩:=h3 x hx;exact ⟨a,b,h10 x hx⟩
  ·obtain ⟨a,b,c⟩:=h6 x hx;exact ⟨a,b,c⟩
def chD {d:Nat} (m:Mod d):Int :=
 if fewM m=false then 3 else if 65536<cntF d m.funcs 0 then 3 else if (m.funcs.any fun f=>lab d f.body)=true then 3 else if (m.funcs.any fun f=>dp d f.body 0)=true then 4 else if shD m=false then 30 else 0
theorem chD_eq {d:Nat} (m:Mod d):chD m=chk m:=by
 unfold chD chk
 rw [goF_cnt d m.funcs 0 (by omega),goF_all (fun x _=>few x.labels.length) stepLabels (fun _ _ _=>rfl),goF_all (fun _ k=>decide (k<=64)) stepDepth (fun _ _ k=>by unfold stepDepth;by_cases h:k<=64<;>simp [h]),goF_all (fun x _=>okS x) stepForm (fun _ _ _=>rfl),
  any_not_all (fun f:Fun d=>lab_all d f.body 0),any_not_all (fun f:Fun d=>dp_all d f.body 0),shD_eq]
 have e:(m.funcs.all fun f=>allI (fun x _=>okS x) d f.body 0)=m.funcs.all fun f=>okL d f.body:=by
  congr 1
  funext f
  exact okL_all d f.body 0
 rw [e]
 cases fewM m
 ·rfl
 ·simp only [Bool.true_eq_false,if_false,if_true]
  by_cases hc:65536<cntF d m.funcs 0
  ·have e2:(if cntF d m.funcs 0<=65536 then some (cntF d m.funcs 0) else none)=none:=if_neg (by omega)
   rw [if_pos hc,e2]
  ·have e2:(if cntF d m.funcs 0<=65536 then some (cntF d m.funcs 0) else none)=some (cntF d m.funcs 0):=if_pos (by omega)
   rw [if_neg hc,e2]
   cases (m.funcs.all fun f=>allI (fun x _=>few x.labels.length) d f.body 0)
   ·rfl
   ·cases (m.funcs.all fun f=>allI (fun _ k=>decide (k<=64)) d f.body 0)
    ·rfl
    ·cases shM m
     ·rfl
     ·cases (m.funcs.all fun f=>okL d f.body)
      ·rfl
      ·rfl
theorem any_at {α:Type} {p:α->Bool} {l:List α} {j:Nat} {x:α} {R:Bool} (hx:l[j]?=some x) (h:R=(l.drop j).any p):R=(p x || (l.drop (j+1)).any p):=by
 have hl:j<l.length:=(List.getElem?_eq_some_iff.1 hx).1
 have he:l[j]=x:=(List.getElem?_eq_some_iff.1 hx).2
 rw [h,List.drop_eq_getElem_cons hl,he];rfl
theorem any_past {α:Type} {p:α->Bool} {l:List α} {j:Nat} {R:Bool} (hj:l.length<=j) (h:R=(l.drop j).any p):R=false:=by
 rw [h,List.drop_of_length_le hj];rfl
end Rep
set_option maxRecDepth 100000 in
set_option maxHeartbeats 4000000 in
theorem refCheck (d:Nat) (v0 v1 v2 v3 v4 v5 v6 v7 v8 v9:Value) (m:Mod d) (w:World) (hM:ModAt w d v0 v1 v2 v3 v4 v5 v6 v7 v8 v9 m) (hX:Texts m) (hsz:∀x ∈ m.datas,x.bytes.size<=4611686018427387904) :
  Calls Tryz.prog 21 #[.agg #[v0,v1,v2,v3,v4,v5,v6,v7,v8,v9]] w fun e w'=>e=.returned (.int .i64 (chk m))/\Below w.heap.size w w':=by
 have l2:=hM.funcs.1
 have HM:=hideR hM
 have HMany:=hideR fun (w':World) (h:Below w.heap.size w w')=>refMany d v0 v1 v2 v3 v4 v5 v6 v7 v8 v9 m w' (hM.on h) hsz
 have HCnt:=hideR fun (w':World) (h:Below w.heap.size w w')=>refCountM d v0 v1 v2 v3 v4 v5 v6 v7 v8 v9 m.funcs w' (hM.on h).funcs hM.ten
 have HShp:=hideR fun (w':World) (h:Below w.heap.size w w')=>refShape d v0 v1 v2 v3 v4 v5 v6 v7 v8 v9 m w' (hM.on h) hX
 have HS:=hideR (Box.start w 32 v0 v1 v2 v3 v4 v5 v6 v7 v8 v9)
 obtain ⟨R,hR⟩:∃R,R=chD m:=⟨_,rfl⟩
 rw [<- chD_eq,<- hR]
 unfold chD at hR
 have HR:=hideR hR
 obtain ⟨o2,c2,rfl⟩:=Row.len hM.funcs
 obtain ⟨⟨o0,n0,c0,rfl⟩,⟨o1,n1,c1,rfl⟩,⟨o3,n3,c3,rfl⟩,⟨o4,n4,c4,rfl⟩,⟨o5,n5,c5,rfl⟩,⟨o6,n6,c6,rfl⟩,⟨o7,n7,c7,rfl⟩,⟨o8,n8,c8,rfl⟩,⟨o9,n9,c9,rfl⟩⟩:=hM.ten
 clear hM hX hsz hR
 generalize hn2:m.funcs.length=n2 at *
 generalize fewM m=r1 at *
 generalize cntF d m.funcs 0=r2 at *
 generalize shD m=r5 at *
 obtain ⟨r3,hr3⟩:∃r3,r3=m.funcs.any fun f=>lab d f.body:=⟨_,rfl⟩
 obtain ⟨r4,hr4⟩:∃r4,r4=m.funcs.any fun f=>dp d f.body 0:=⟨_,rfl⟩
 rw [<- hr3,<- hr4] at HR
 have HR3:Hid (r3=(m.funcs.drop 0).any fun f=>lab d f.body):=hr3
 have HR4:Hid (r4=(m.funcs.drop 0).any fun f=>dp d f.body 0):=hr4
 clear hr3 hr4
 go_enter Tryz.func21,Tryz.ntmps21
 go_upto_region 1 with fail
 obtain ⟨wb,hwb⟩:∃wb,wb=w.alloc (.cells #[.slice o0 n0 c0,.slice o1 n1 c1,.slice o2 n2 c2,.slice o3 n3 c3,.slice o4 n4 c4,.slice o5 n5 c5,.slice o6 n6 c6,.slice o7 n7 c7,.slice o8 n8 c8,.slice o9 n9 c9] 32):=⟨_,rfl⟩
 rw [<- hwb] at HS ⊢
 clear hwb
 obtain ⟨q0,q1,q2,q3,q4,q5,q6,q7,q8,q9,qb⟩:=HS.out
 clear qb
 go_wp2_with fail
 refine (HMany.out _ HS.out.bel).mono ?_
 rintro e u1 ⟨rfl,hb⟩
 have HS:=hideR (HS.out.on hb)
 clear hb q0 q1 q2 q3 q4 q5 q6 q7 q8 q9 HMany
 cases r1 with
 | false =>
  obtain rfl:R=3:=HR.out
  clear HR
  go_wp2
  go_ret
  exact ⟨rfl,HS.out.bel⟩
 | true =>
 obtain ⟨q0,q1,q2,q3,q4,q5,q6,q7,q8,q9,qb⟩:=HS.out
 clear qb
 go_wp2_with fail
 refine (HCnt.out _ HS.out.bel).mono ?_
 rintro e u2 ⟨rfl,hb⟩
 have HS:=hideR (HS.out.on hb)
 clear hb q0 q1 q2 q3 q4 q5 q6 q7 q8 q9 HCnt
 obtain ⟨r2',hr2'⟩:∃r2':Nat,r2'=min r2 65537:=⟨_,rfl⟩
 rw [<- hr2']
 have hle:r2'<=65537:=by omega
 by_cases hc:65536<r2
 ·have hc':65536<r2':=by omega
  obtain rfl:R=3:=by rw [HR.out,if_neg (by simp),if_pos hc]
  clear HR
  go_wp2
  go_ret
  exact ⟨rfl,HS.out.bel⟩
 have hc':¬ 65536<r2':=by omega
 have HRa:Hid (R=if r3=true then 3 else if r4=true then 4 else if r5=false then 30 else 0):=hideR (by rw [HR.out,if_neg (by simp),if_neg hc])
 clear HR hr2'
 obtain ⟨q0,q1,q2,q3,q4,q5,q6,q7,q8,q9,qb⟩:=HS.out
 clear qb q0 q1 q3 q4 q5 q6 q7 q8 q9
 go_wp2_with fail
 clear q2
 go_loopw [3] (fun i wr=>∃j:Nat,j<=n2/\i=.int .i64 j/\Hid (r3=(m.funcs.drop j).any fun f=>lab d f.body)/\wr=u2) (fun i _=>n2-(RowKit.intOf i).toNat)
 case atStart=>exact ⟨0,by omega,rfl,HR3,rfl⟩
 case round =>
  obtain ⟨j,hj,rfl,HK,rfl⟩:=hrel
  obtain ⟨q0,q1,q2,q3,q4,q5,q6,q7,q8,q9,qb⟩:=HS.out
  clear qb q0 q1 q3 q4 q5 q6 q7 q8 q9
  by_cases hgo:j<n2
  ·obtain ⟨b,off,cap2,hv2,hx⟩:=Row.some ((HM.out.on HS.out.bel).funcs) (by omega)
   injection hv2 with ho h2 h3
   subst ho
   obtain ⟨x,hxk⟩:∃x,m.funcs[j]?=some x:=⟨_,List.getElem?_eq_getElem (by omega)⟩
   have hI:=hx j x hxk
   obtain ⟨vb,k2,ab⟩:=hI.body
   obtain ⟨ob,cb,rfl⟩:=At.len d vb _ ab
   have AB:=hideR ab
   have HN:=hideR (any_at hxk HK.out)
   clear hx hxk h2 h3 HK hI ab
   go_wp2_with fail
   refine (refLabels d _ x.body _ AB.out).mono ?_
   rintro e u ⟨rfl,hu⟩
   obtain rfl:wr=u:=hu.symm
   generalize lab d x.body=t at *
   cases t with
   | true =>
    obtain rfl:r3=true:=HN.out
    obtain rfl:R=3:=HRa.out
    clear HRa HN
    go_wp2
    go_ret
    exact ⟨rfl,HS.out.bel⟩
   | false =>
    have HN2:Hid (r3=(m.funcs.drop (j+1)).any fun f=>lab d f.body):=hideR (by rw [HN.out,Bool.false_or])
    clear HN
    go_wp2
    go_roundw
    case rel=>exact ⟨j+1,by omega,by go_num,HN2,trivial⟩
    case measure=>simp [RowKit.intOf];omega
  obtain rfl:n2=j:=by omega
  obtain rfl:r3=false:=any_past (by omega) HK.out
  have HRb:Hid (R=if r4=true then 4 else if r5=false then 30 else 0):=HRa
  clear HRa HK
  go_wp2_with fail
  clear q2
  obtain ⟨u2,rfl⟩:∃u2,u2=wr:=⟨_,rfl⟩
  go_loopw [4] (fun i wr=>∃j:Nat,j<=n2/\i=.int .i64 j/\Hid (r4=(m.funcs.drop j).any fun f=>dp d f.body 0)/\wr=u2) (fun i _=>n2-(RowKit.intOf i).toNat)
  case atStart=>exact ⟨0,by omega,rfl,HR4,rfl⟩
  case round =>
   obtain ⟨j,hj,rfl,HK,rfl⟩:=hrel
   by_cases hgo:j<n2
   ·obtain ⟨q0,q1,q2,q3,q4,q5,q6,q7,q8,q9,qb⟩:=HS.out
    clear qb q0 q1 q3 q4 q5 q6 q7 q8 q9
    obtain ⟨b,off,cap2,hv2,hx⟩:=Row.some ((HM.out.on HS.out.bel).funcs) (by omega)
    injection hv2 with ho h2 h3
    subst ho
    obtain ⟨x,hxk⟩:∃x,m.funcs[j]?=some x:=⟨_,List.getElem?_eq_getElem (by omega)⟩
    have hI:=hx j x hxk
    obtain ⟨vb,k2,ab⟩:=hI.body
    obtain ⟨ob,cb,rfl⟩:=At.len d vb _ ab
    have AB:=hideR ab
    have HN:=hideR (any_at hxk HK.out)
    clear hx hxk h2 h3 HK hI ab
    go_wp2_with fail
    refine (refDeep d _ x.body 0 _ AB.out (by omega)).mono ?_
    rintro e u ⟨rfl,hu⟩
    obtain rfl:wr=u:=hu.symm
    generalize dp d x.body 0=t at *
    cases t with
    | true =>
     obtain rfl:r4=true:=HN.out
     obtain rfl:R=4:=HRb.out
     clear HRb HN
     go_wp2
     go_ret
     exact ⟨rfl,HS.out.bel⟩
    | false =>
     have HN2:Hid (r4=(m.funcs.drop (j+1)).any fun f=>dp d f.body 0):=hideR (by rw [HN.out,Bool.false_or])
     clear HN
     go_wp2
     go_roundw
     case rel=>exact ⟨j+1,by omega,by go_num,HN2,trivial⟩
     case measure=>simp [RowKit.intOf];omega
   obtain rfl:n2=j:=by omega
   obtain rfl:r4=false:=any_past (by omega) HK.out
   have HRc:Hid (R=if r5=false then 30 else 0):=HRb
   clear HRb HK
   obtain ⟨q0,q1,q2,q3,q4,q5,q6,q7,q8,q9,qb⟩:=HS.out
   clear qb
   go_wp2_with fail
   refine (HShp.out _ HS.out.bel).mono ?_
   rintro e u5 ⟨rfl,hb⟩
   have HS:=hideR (HS.out.on hb)
   clear hb q0 q1 q2 q3 q4 q5 q6 q7 q8 q9 HShp
   cases r5 with
   | false =>
    obtain rfl:R=30:=HRc.out
    clear HRc
    go_wp2
    go_ret
    exact ⟨rfl,HS.out.bel⟩
   | true =>
    obtain rfl:R=0:=HRc.out
    clear HRc
    go_wp2
    go_ret
    exact ⟨rfl,HS.out.bel⟩
end Go.Proofs.YtlcpagiljfpbpaaGreatDoor

