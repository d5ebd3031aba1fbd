/- Texts that the claim needs. -/
import Derived.Test.YthfapccopngfhaaDoorQDex27
import Derived.Test.YthfapccopngfhaaDoorQDex1
import Derived.Deep.CutRange
import Derived.Deep.Cut
import Derived.Deep.RegionWith
import Derived.Test.YthfapccopngfhaaDoorQDex22
import Derived.Test.YthfapccopngfhaaDoorQDex23
import Derived.Test.YthfapccopngfhaaDoorRows
import Derived.Lib.LaidIn
import Derived.Lib.LaidU8T
import Derived.ProofKit
namespace Go.Proofs.YthfapccopngfhaaDoor
open Go.RowKit Rep Dec
set_option linter.unusedVariables false
namespace Dec
def MW (p:Nat) (st:Nat × Nat) (c:Nat->Value) (k n:Nat) (w:World):Prop:=(∃o cap,c 0=.slice o st.1 cap)/\(k=0/\∃o cap,c 2=.slice o st.2 cap)/\∀j,j<10->∃o n k,c j=.slice o n k
def secW (s:ByteArray) (id:Int):Sec (Nat × Nat):=fun st en i=>if id=0 then bd (rcustom s en i) fun _ j=>.ok (st,j) else bd (rents (rft s en) s en i) fun l j=>.ok ((l.length,st.2),j)
def okW (id:Int):Bool:=id == 0 || id == 1
theorem MW_keeps (p:Nat):KeepsB p (MW p):=fun st c k n w w' h _ _=>h
def s1:ByteArray:={ data:=#[0,97,115,109,1,0,0,0,0,2,1,120,1,4,1,96,0,0] }
def s2:ByteArray:={ data:=#[0,97,115,109,1,0,0,0,1,5,1,96,0,0,0] }
theorem run1:(if 262144<s1.size then some (.error 2) else if pfx s1=false then some (.error 50) else rsecs (secW s1) okW (fun _=>0) (fun st=>st.2) s1 s1.size 3 0 (0,0) 8)=some (.ok ((1,0),18)):=by
 kernel_rfl
theorem run2:(if 262144<s2.size then some (.error 2) else if pfx s2=false then some (.error 50) else rsecs (secW s2) okW (fun _=>0) (fun st=>st.2) s2 s2.size 3 0 (0,0) 8)=some (.error 50):=by
 kernel_rfl
end Dec
theorem utfI_go {w w':World} (h:UtfI w) (hb:Below w.heap.size w w'):UtfI w' :=
 ⟨fun c hc=>cell_on hb (h.1 c hc),fun i hi=>⟨cell_on hb (h.2 i hi).1,cell_on hb (h.2 i hi).2⟩⟩
theorem secW_says {w0:World} {p:Nat} {s:ByteArray} (hU:∀u,Below w0.heap.size w0 u->UtfI u) {id:Int} (h:okW id=true):SecSays w0 p s (MW p) (secW s id) id:=by
 intro st c en k i n w hr hM
 have hid:id=0\/id=1:=by unfold okW at h;simpa using h
 rcases hid with rfl|rfl
 ·have h0:=sec0 w0 p s c en k i n w hr hU
  unfold secW
  rw [if_pos rfl]
  refine h0.mono ?_
  intro e w' hx
  cases hR:rcustom s en i with
  | error z=>rw [hR] at hx;exact hx
  | ok v =>
   obtain ⟨u,j⟩:=v
   rw [hR] at hx
   obtain ⟨⟨v,rfl,hv⟩,h1,h2⟩:=hx
   have hv:v=.tuple #[]:=hv
   subst hv
   exact ⟨rfl,⟨c,k,n,h1,hM⟩,But.t h2⟩
 ·have h1:=sec1 w0 p s c en k i n w hr
  unfold secW
  rw [if_neg (by decide)]
  refine h1.mono ?_
  intro e w' hx
  cases hR:rents (rft s en) s en i with
  | error z=>rw [hR] at hx;exact hx
  | ok v =>
   obtain ⟨l,j⟩:=v
   rw [hR] at hx
   obtain ⟨rfl,⟨v,hv,h2⟩,h3⟩:=hx
   obtain ⟨o,cap,rfl⟩:∃o cap,v=.slice o l.length cap:=by
    rcases hv.2 with ⟨rfl,o,cap,rfl⟩|⟨b,off,cap,rfl,_⟩
    ·exact ⟨o,cap,rfl⟩
    ·exact ⟨_,cap,rfl⟩
   refine ⟨rfl,⟨_,k,n,h2,⟨o,cap,rfl⟩,⟨hM.2.1.1,?_⟩,?_⟩,But.t h3⟩
   ·obtain ⟨o2,c2,e2⟩:=hM.2.1.2
    exact ⟨o2,c2,by unfold upd;rw [if_neg (by decide)];exact e2⟩
   ·intro j hj
    unfold upd
    by_cases hj0:j=0
    ·exact ⟨o,l.length,cap,by rw [if_pos hj0]⟩
    ·obtain ⟨a,b,d,e⟩:=hM.2.2 j hj
     exact ⟨a,b,d,by rw [if_neg hj0];exact e⟩
set_option maxRecDepth 100000 in
set_option maxHeartbeats 4000000 in
theorem dWakes (w:World) (hU:UtfI w):Calls Tryd.prog 4 #[] w fun e w'=>e=.returned (.bool true)/\Below w.heap.size w w':=by
 have HD:=fun (u:World) (hb:Below w.heap.size w u) (s:ByteArray) (hs:s.size<=4611686018427387904) (X:R (Nat × Nat)) (hX:_=some X)=>hideR (dDecode (M:=MW) (sec:=secW s) (ok:=okW) (cd:=fun _=>0) (fl:=fun st=>st.2) (st0:=(0,0)) s u hs MW_keeps
  (fun w0 p id hb0 hid=>secW_says (fun u2 hb2=>utfI_go hU (below_go' hb (below_go' hb0 hb2))) hid) (fun p st c k n w hM=>hM.2) (fun p w=>⟨⟨_,_,rfl⟩,⟨rfl,_,_,rfl⟩,fun j _=>⟨_,_,_,rfl⟩⟩) 3 X hX)
 have H1:=HD w (Below.refl _ _) s1 (by decide) _ run1
 have H2:=fun u hb=>HD u hb s2 (by decide) _ run2
 clear HD
 go_enter Tryd.func4,Tryd.ntmps4
 go_wp2_with fail
 refine H1.out.mono ?_
 rintro e u ⟨hb,p,c,k,n,hM,rfl⟩
 have hc0:=hM.1
 have hsl:=hM.2.2
 have hall:(#[c 0,c 1,c 2,c 3,c 4,c 5,c 6,c 7,c 8,c 9]:Array Value).all (·.oneCell')=true:=all_slices hsl
 have hB1:Below u.heap.size u (u.alloc (.cells #[.slice none 0 0,.slice none 0 0,.slice none 0 0,.slice none 0 0,.slice none 0 0,.slice none 0 0,.slice none 0 0,.slice none 0 0,.slice none 0 0,.slice none 0 0] 41)):=(Below.refl _ _).alloc (Nat.le_refl _) _
 have hbk:(u.alloc (.cells #[.slice none 0 0,.slice none 0 0,.slice none 0 0,.slice none 0 0,.slice none 0 0,.slice none 0 0,.slice none 0 0,.slice none 0 0,.slice none 0 0,.slice none 0 0] 41)).heap[u.heap.size]?=some (.cells #[.slice none 0 0,.slice none 0 0,.slice none 0 0,.slice none 0 0,.slice none 0 0,.slice none 0 0,.slice none 0 0,.slice none 0 0,.slice none 0 0,.slice none 0 0] 41 (0,0)):=heap_alloc_new' _ _ rfl
 have hth:=there_of hbk rfl
 obtain ⟨W2,hW2⟩:∃W2,(u.alloc (.cells #[.slice none 0 0,.slice none 0 0,.slice none 0 0,.slice none 0 0,.slice none 0 0,.slice none 0 0,.slice none 0 0,.slice none 0 0,.slice none 0 0,.slice none 0 0] 41)).setCells u.heap.size 0 (#[c 0,c 1,c 2,c 3,c 4,c 5,c 6,c 7,c 8,c 9]:Array Value).toList=W2:=⟨_,rfl⟩
 have g4:W2.heap[u.heap.size]?=some (.cells #[c 0,c 1,c 2,c 3,c 4,c 5,c 6,c 7,c 8,c 9] 41 (0,0)):=by rw [<- hW2];exact ten_heap hbk rfl rfl
 have gB:Below u.heap.size u W2:=by
  have hW:=cells_but u.heap.size (#[c 0,c 1,c 2,c 3,c 4,c 5,c 6,c 7,c 8,c 9]:Array Value).toList 0 (u.alloc (.cells #[.slice none 0 0,.slice none 0 0,.slice none 0 0,.slice none 0 0,.slice none 0 0,.slice none 0 0,.slice none 0 0,.slice none 0 0,.slice none 0 0,.slice none 0 0] 41))
  rw [<- hW2]
  exact hB1.trans ⟨hW.os,hW.tape,hW.output,hW.size,fun j hj=>cells_other _ _ (by omega) _ _ _⟩
 have HG:=hideR (And.intro g4 gB)
 have HTH:=hideR hth
 have HALL:=hideR hall
 have HW2:=hideR hW2
 have HB:=hideR hb
 have HC0:=hideR hc0
 clear H1 hb hM hc0 hsl hall hB1 hbk hth hW2 g4 gB
 go_wp2_with (refine wpList_store_mid rfl 41 (.tmp 1) (.tmp 7) rfl u.heap.size 0 #[c 0,c 1,c 2,c 3,c 4,c 5,c 6,c 7,c 8,c 9] rfl rfl HTH.out size41 HALL.out ?_;rw [HW2.out])
 have H2':=H2 W2 (below_go' HB.out HG.out.2)
 refine H2'.out.mono ?_
 rintro e u3 ⟨hb3,he⟩
 have he:e=.returned (.tuple #[.agg #[.slice none 0 0,.slice none 0 0,.slice none 0 0,.slice none 0 0,.slice none 0 0,.slice none 0 0,.slice none 0 0,.slice none 0 0,.slice none 0 0,.slice none 0 0],.int .i64 50]):=he
 subst he
 have hB4:Below u3.heap.size u3 (u3.alloc (.cells #[.slice none 0 0,.slice none 0 0,.slice none 0 0,.slice none 0 0,.slice none 0 0,.slice none 0 0,.slice none 0 0,.slice none 0 0,.slice none 0 0,.slice none 0 0] 41)):=(Below.refl _ _).alloc (Nat.le_refl _) _
 have hbk:(u3.alloc (.cells #[.slice none 0 0,.slice none 0 0,.slice none 0 0,.slice none 0 0,.slice none 0 0,.slice none 0 0,.slice none 0 0,.slice none 0 0,.slice none 0 0,.slice none 0 0] 41)).heap[u3.heap.size]?=some (.cells #[.slice none 0 0,.slice none 0 0,.slice none 0 0,.slice none 0 0,.slice none 0 0,.slice none 0 0,.slice none 0 0,.slice none 0 0,.slice none 0 0,.slice none 0 0] 41 (0,0)):=heap_alloc_new' _ _ rfl
 have hth:=there_of hbk rfl
 have hall:(#[.slice none 0 0,.slice none 0 0,.slice none 0 0,.slice none 0 0,.slice none 0 0,.slice none 0 0,.slice none 0 0,.slice none 0 0,.slice none 0 0,.slice none 0 0]:Array Value).all (·.oneCell')=true:=by simp [Value.oneCell']
 obtain ⟨W4,hW4⟩:∃W4,(u3.alloc (.cells #[.slice none 0 0,.slice none 0 0,.slice none 0 0,.slice none 0 0,.slice none 0 0,.slice none 0 0,.slice none 0 0,.slice none 0 0,.slice none 0 0,.slice none 0 0] 41)).setCells u3.heap.size 0 (#[.slice none 0 0,.slice none 0 0,.slice none 0 0,.slice none 0 0,.slice none 0 0,.slice none 0 0,.slice none 0 0,.slice none 0 0,.slice none 0 0,.slice none 0 0]:Array Value).toList=W4:=⟨_,rfl⟩
 have gB:Below u3.heap.size u3 W4:=by
  have hW:=cells_but u3.heap.size (#[.slice none 0 0,.slice none 0 0,.slice none 0 0,.slice none 0 0,.slice none 0 0,.slice none 0 0,.slice none 0 0,.slice none 0 0,.slice none 0 0,.slice none 0 0]:Array Value).toList 0 (u3.alloc (.cells #[.slice none 0 0,.slice none 0 0,.slice none 0 0,.slice none 0 0,.slice none 0 0,.slice none 0 0,.slice none 0 0,.slice none 0 0,.slice none 0 0,.slice none 0 0] 41))
  rw [<- hW4]
  exact hB4.trans ⟨hW.os,hW.tape,hW.output,hW.size,fun j hj=>cells_other _ _ (by omega) _ _ _⟩
 obtain ⟨o,cap,hc⟩:=HC0.out
 have c0:W4.cell? ⟨u.heap.size,0,none⟩=some (.slice o 1 cap):=by
  have h1:W2.cell? ⟨u.heap.size,0,none⟩=some (c 0):=cell_of (j:=0) HG.out.1
  rw [hc] at h1
  exact cell_on gB (cell_on hb3 h1)
 have HTH4:=hideR hth
 have HALL4:=hideR hall
 have HW4:=hideR hW4
 have HF:=hideR (below_go' (below_go' (below_go' HB.out HG.out.2) hb3) gB)
 clear H2 H2' hb3 hB4 hbk hth hall hW4 gB hc HTH HALL HW2 HG HB HC0
 go_wp2_with (refine wpList_store_mid rfl 41 (.tmp 3) (.tmp 11) rfl u3.heap.size 0 #[.slice none 0 0,.slice none 0 0,.slice none 0 0,.slice none 0 0,.slice none 0 0,.slice none 0 0,.slice none 0 0,.slice none 0 0,.slice none 0 0,.slice none 0 0] rfl rfl HTH4.out size41 HALL4.out ?_;rw [HW4.out])
 go_ret
 exact ⟨rfl,HF.out⟩
end Go.Proofs.YthfapccopngfhaaDoor

namespace Go.Proofs.YthfapccopngfhaaDoor
open Go.RowKit Rep
set_option linter.unusedVariables false
namespace Rep
theorem dec_on {α:Type} [DecidableEq α] {a b:List α} {j:Nat} {x y:α} {R:Bool} (hx:a[j]?=some x) (hy:b[j]?=some y) (h:R=decide (a.drop j=b.drop j)):R=(decide (x=y) && decide (a.drop (j+1)=b.drop (j+1))):=by
 have hl:j<a.length:=(List.getElem?_eq_some_iff.1 hx).1
 have he:a[j]=x:=(List.getElem?_eq_some_iff.1 hx).2
 have hl2:j<b.length:=(List.getElem?_eq_some_iff.1 hy).1
 have he2:b[j]=y:=(List.getElem?_eq_some_iff.1 hy).2
 rw [h,List.drop_eq_getElem_cons hl,he,List.drop_eq_getElem_cons hl2,he2,<- Bool.decide_and]
 simp only [List.cons.injEq]
end Rep
set_option maxRecDepth 100000 in
set_option maxHeartbeats 1000000 in
theorem refKeep (va vb:Value) (a b:List Int) (w:World) (hA:Ints w va a) (hB:Ints w vb b) :
  Calls Tryd.prog 13 #[va,vb] w fun e w'=>e=.returned (.bool (decide (a=b)))/\∃n,w'=w.drewN n:=by
 have la:=hA.1
 have lb:=hB.1
 obtain ⟨oa,ca,rfl⟩:=Row.len hA
 obtain ⟨ob,cb,rfl⟩:=Row.len hB
 have HA:=hideR hA
 have HB:=hideR hB
 obtain ⟨R,hR⟩:∃R,R=decide (a=b):=⟨_,rfl⟩
 rw [<- hR]
 have HR:Hid (R=decide (a.drop 0=b.drop 0)):=hR
 have HL:Hid (a.length≠b.length->R=false):=hideR (fun h=>by rw [hR,decide_eq_false (fun e=>h (by rw [e]))])
 clear hA hB hR
 generalize hn:a.length=n at *
 generalize hm:b.length=k at *
 by_cases hne:n=k
 rotate_left
 ·obtain rfl:=HL.out hne
  have hne':((n:Int) != (k:Int))=true:=by rw [bne_iff_ne];omega
  clear HR HL
  go_enter Tryd.func13,Tryd.ntmps13
  go_wp2
  go_ret
  exact ⟨rfl,0,rfl⟩
 subst hne
 clear HL
 go_enter Tryd.func13,Tryd.ntmps13
 go_wp2_with fail
 go_loopw [5] (fun i wr=>∃j q:Nat,j<=n/\i=.int .i64 j/\Hid (R=decide (a.drop j=b.drop j))/\wr=w.drewN q) (fun i _=>n-(RowKit.intOf i).toNat)
 case atStart=>exact ⟨0,0,by omega,rfl,HR,rfl⟩
 case round =>
  obtain ⟨j,q,hj,rfl,HK,rfl⟩:=hrel
  by_cases hgo:j<n
  ·obtain ⟨b1,off1,cap1,hv1,hx1⟩:=Row.some HA.out (by omega)
   injection hv1 with ho1 e11 e12
   subst ho1
   obtain ⟨b2,off2,cap2,hv2,hx2⟩:=Row.some HB.out (by omega)
   injection hv2 with ho2 e21 e22
   subst ho2
   obtain ⟨x,hxk⟩:∃x,a[j]?=some x:=⟨_,List.getElem?_eq_getElem (by omega)⟩
   obtain ⟨y,hyk⟩:∃y,b[j]?=some y:=⟨_,List.getElem?_eq_getElem (by omega)⟩
   have k1:=hx1 j x hxk
   have k2:=hx2 j y hyk
   rw [Nat.mul_one] at k1 k2
   have HN:=hideR (dec_on hxk hyk HK.out)
   clear hx1 hx2 hxk hyk HK e11 e12 e21 e22
   go_upto_region 6 with fail
   go_quiet (fail)
   by_cases hxy:x=y
   ·subst hxy
    have HN2:Hid (R=decide (a.drop (j+1)=b.drop (j+1))):=hideR (by rw [HN.out,decide_eq_true rfl,Bool.true_and])
    clear HN
    go_wp2
    go_roundw
    case rel=>exact ⟨j+1,q+nq,by omega,by go_num,HN2,by first|rfl|(rw [World.drewN_drewN])⟩
    case measure=>simp [RowKit.intOf];omega
   ·obtain rfl:R=false:=by rw [HN.out,decide_eq_false hxy];rfl
    have hxy':(x != y)=true:=by rw [bne_iff_ne];exact hxy
    clear HN
    go_wp2
    go_ret
    exact ⟨rfl,q+nq,by first|rfl|(rw [World.drewN_drewN])⟩
  ·obtain rfl:R=true:=by rw [HK.out,List.drop_of_length_le (by omega),List.drop_of_length_le (by omega)];rfl
   clear HK
   go_wp2
   go_ret
   exact ⟨rfl,q,rfl⟩
end Go.Proofs.YthfapccopngfhaaDoor

namespace Go.Proofs.YthfapccopngfhaaDoor
open Go.RowKit Rep
set_option linter.unusedVariables false
namespace Rep
def sam1 {α:Type} (f:α->α->Bool) (x y:Ins α):Bool:=decide (x.op=y.op) && (decide (x.a=y.a) && (decide (x.b=y.b) && (decide (x.n=y.n) && (decide (x.labels=y.labels) && (f x.body y.body && f x.els y.els)))))
def samL {α:Type} (f:α->α->Bool):List (Ins α)->List (Ins α)->Bool
 | [],[]=>true
 | x :: r,y :: s=>sam1 f x y && samL f r s
 | _,_=>false
def samI:(d:Nat)->IL d->IL d->Bool
 | 0,_,_=>true
 | d+1,l,k=>samL (samI d) l k
theorem samL_len {α:Type} {f:α->α->Bool}:∀(l k:List (Ins α)),l.length≠k.length->samL f l k=false
 | [],[],h=>absurd rfl h
 | [],_ :: _,_=>rfl
 | _ :: _,[],_=>rfl
 | x :: r,y :: s,h=>by
  show (sam1 f x y && samL f r s)=false
  rw [samL_len r s (by simpa using h),Bool.and_false]
theorem samL_on {α:Type} {f:α->α->Bool} {a b:List (Ins α)} {j:Nat} {x y:Ins α} {R:Bool} (hx:a[j]?=some x) (hy:b[j]?=some y) (h:R=samL f (a.drop j) (b.drop j)):R=(sam1 f x y && samL f (a.drop (j+1)) (b.drop (j+1))):=by
 have hl:j<a.length:=(List.getElem?_eq_some_iff.1 hx).1
 have he:a[j]=x:=(List.getElem?_eq_some_iff.1 hx).2
 have hl2:j<b.length:=(List.getElem?_eq_some_iff.1 hy).1
 have he2:b[j]=y:=(List.getElem?_eq_some_iff.1 hy).2
 rw [h,List.drop_eq_getElem_cons hl,he,List.drop_eq_getElem_cons hl2,he2];rfl
structure Sev (b:Nat) (v0 v1 v2 v3 v4 v5 v6:Value) (u:World):Prop where
 c0:u.cell? ⟨b,0,none⟩=some v0
 c1:u.cell? ⟨b,1,none⟩=some v1
 c2:u.cell? ⟨b,2,none⟩=some v2
 c3:u.cell? ⟨b,3,none⟩=some v3
 c4:u.cell? ⟨b,4,none⟩=some v4
 c5:u.cell? ⟨b,5,none⟩=some v5
 c6:u.cell? ⟨b,6,none⟩=some v6
theorem Sev.on {u u':World} (hb:Below u.heap.size u u') {b:Nat} {v0 v1 v2 v3 v4 v5 v6:Value} (h:Sev b v0 v1 v2 v3 v4 v5 v6 u):Sev b v0 v1 v2 v3 v4 v5 v6 u' :=
 ⟨cell_on hb h.c0,cell_on hb h.c1,cell_on hb h.c2,cell_on hb h.c3,cell_on hb h.c4,cell_on hb h.c5,cell_on hb h.c6⟩
theorem Sev.new (w:World) (t:TypeId) (b:Nat) (v0 v1 v2 v3 v4 v5 v6:Value) (hb:b=w.heap.size):Sev b v0 v1 v2 v3 v4 v5 v6 (w.alloc (.cells #[v0,v1,v2,v3,v4,v5,v6] t)):=by
 refine ⟨?_,?_,?_,?_,?_,?_,?_⟩<;>(rw [World.cell?_alloc_at _ t _ _ hb];rfl)
end Rep
def SameSays (d:Nat):Prop:=∀(va vb:Value) (a b:IL d) (w:World),At w d va a->At w d vb b ->
  Calls Tryd.prog 7 #[va,vb] w fun e w'=>e=.returned (.bool (samI d a b))/\Below w.heap.size w w'
theorem refInstrsNe (oa ob:Option Addr) (n k ca cb:Nat) (w:World) (hn:n<=9223372036854775807) (hk:k<=9223372036854775807) (hne:n≠k) :
  Calls Tryd.prog 7 #[.slice oa n ca,.slice ob k cb] w fun e w'=>e=.returned (.bool false)/\w'=w:=by
 have hne':((n:Int) != (k:Int))=true:=by rw [bne_iff_ne];omega
 go_enter Tryd.func7,Tryd.ntmps7
 go_wp2
 go_ret
 exact ⟨rfl,rfl⟩
set_option maxHeartbeats 1000000 in
theorem refInstrs0 (oa ob:Option Addr) (ca cb:Nat) (w:World) :
  Calls Tryd.prog 7 #[.slice oa 0 ca,.slice ob 0 cb] w fun e w'=>e=.returned (.bool true)/\w'=w:=by
 go_enter Tryd.func7,Tryd.ntmps7
 go_wp2_with fail
 go_loopw [5] (fun i wr=>i=.int .i64 0/\wr=w) (fun _ _=>0)
 case atStart=>exact ⟨rfl,rfl⟩
 case round =>
  obtain ⟨rfl,rfl⟩:=hrel
  go_wp2
  go_ret
  exact ⟨rfl,rfl⟩
set_option maxRecDepth 100000 in
set_option maxHeartbeats 4000000 in
theorem refInstrsS (d:Nat) (IH:SameSays d) (va vb:Value) (a b:List (Ins (IL d))) (w:World) (hA:Row 7 (InsAt w (At w d)) va a) (hB:Row 7 (InsAt w (At w d)) vb b) :
  Calls Tryd.prog 7 #[va,vb] w fun e w'=>e=.returned (.bool (samL (samI d) a b))/\Below w.heap.size w w':=by
 have la:=hA.1
 have lb:=hB.1
 obtain ⟨oa,ca,rfl⟩:=Row.len hA
 obtain ⟨ob,cb,rfl⟩:=Row.len hB
 by_cases hne:a.length=b.length
 rotate_left
 ·rw [samL_len _ _ hne]
  exact (refInstrsNe oa ob _ _ ca cb w la lb hne).mono fun e w' ⟨h1,h2⟩=>⟨h1,by rw [h2];exact Below.refl _ _⟩
 have HA:=hideR hA
 have HB:=hideR hB
 obtain ⟨R,hR⟩:∃R,R=samL (samI d) a b:=⟨_,rfl⟩
 rw [<- hR]
 have HR:Hid (R=samL (samI d) (a.drop 0) (b.drop 0)):=hR
 clear hA hB hR
 generalize hn:a.length=n at *
 generalize hm:b.length=k at *
 subst hne
 clear lb
 go_enter Tryd.func7,Tryd.ntmps7
 go_wp2_with fail
 go_loopw [5] (fun i wr=>∃j:Nat,j<=n/\i=.int .i64 j/\Hid (R=samL (samI d) (a.drop j) (b.drop j))/\Hid (Below w.heap.size w wr)) (fun i _=>n-(RowKit.intOf i).toNat)
 case atStart=>exact ⟨0,by omega,rfl,HR,hideR (Below.refl _ _)⟩
 case round =>
  obtain ⟨j,hj,rfl,HK,HP⟩:=hrel
  by_cases hgo:j<n
  ·obtain ⟨b1,off1,cap1,hv1,hx1⟩:=Row.some HA.out (by omega)
   injection hv1 with ho1 e11 e12
   subst ho1
   obtain ⟨b2,off2,cap2,hv2,hx2⟩:=Row.some HB.out (by omega)
   injection hv2 with ho2 e21 e22
   subst ho2
   obtain ⟨x,hxk⟩:∃x,a[j]?=some x:=⟨_,List.getElem?_eq_getElem (by omega)⟩
   obtain ⟨y,hyk⟩:∃y,b[j]?=some y:=⟨_,List.getElem?_eq_getElem (by omega)⟩
   have HX:=hideR ((hx1 j x hxk).on HP.out (At.on HP.out d))
   have HY:=hideR ((hx2 j y hyk).on HP.out (At.on HP.out d))
   have HN:=hideR (samL_on hxk hyk HK.out)
   clear hx1 hx2 hxk hyk HK e11 e12 e21 e22
   obtain ⟨g0,g1,g2,g3,⟨lx,g4,ax4⟩,⟨bx,g5,ax5⟩,⟨ex,g6,ax6⟩⟩:=HX.out
   obtain ⟨h0,h1,h2,h3,⟨ly,h4,ay4⟩,⟨by_,h5,ay5⟩,⟨ey,h6,ay6⟩⟩:=HY.out
   obtain ⟨lxo,lxc,rfl⟩:=Row.len ax4
   obtain ⟨lyo,lyc,rfl⟩:=Row.len ay4
   obtain ⟨bxo,bxc,rfl⟩:=At.len d bx _ ax5
   obtain ⟨exo,exc,rfl⟩:=At.len d ex _ ax6
   obtain ⟨byo,byc,rfl⟩:=At.len d by_ _ ay5
   obtain ⟨eyo,eyc,rfl⟩:=At.len d ey _ ay6
   have AX4:=hideR ax4
   have AX5:=hideR ax5
   have AX6:=hideR ax6
   have AY4:=hideR ay4
   have AY5:=hideR ay5
   have AY6:=hideR ay6
   clear ax4 ax5 ax6 ay4 ay5 ay6 HX HY
   have z1:b1<wr.heap.size:=World.block_lt_of_cell? _ _ g0
   have z2:b2<wr.heap.size:=World.block_lt_of_cell? _ _ h0
   go_upto_region 6 with fail
   go_cut [6,7] from 19 to 26 (fun s6 s7 wx=>∃p q:Nat,s6=.pointer (some ⟨p,0,none⟩)/\s7=.pointer (some ⟨q,0,none⟩)/\Hid (Sev p (.int .i64 x.op) (.int .i64 x.a) (.int .i64 x.b) (.int .i64 x.n) (.slice lxo x.labels.length lxc) (.slice bxo (size d x.body) bxc) (.slice exo (size d x.els) exc) wx)/\Hid (Sev q (.int .i64 y.op) (.int .i64 y.a) (.int .i64 y.b) (.int .i64 y.n) (.slice lyo y.labels.length lyc) (.slice byo (size d y.body) byc) (.slice eyo (size d y.els) eyc) wx)/\Hid (Below wr.heap.size wr wx))
   case first =>
    go_region
    ·go_wp2_with fail
     go_meet
     exact ⟨wr.heap.size,wr.heap.size+1,rfl,rfl,hideR (Sev.on (drew_on _) (Sev.on (new_on' _ _) (Sev.new wr _ _ _ _ _ _ _ _ _ rfl))),hideR (Sev.on (drew_on _) (Sev.new _ _ _ _ _ _ _ _ _ _ (by simp))),hideR (below_go' (below_go' (new_on' _ _) (new_on' _ _)) (drew_on _))⟩
    ·go_wp2_with fail
     go_meet
     exact ⟨wr.heap.size+1,wr.heap.size,rfl,rfl,hideR (Sev.on (drew_on _) (Sev.new _ _ _ _ _ _ _ _ _ _ (by simp))),hideR (Sev.on (drew_on _) (Sev.on (new_on' _ _) (Sev.new wr _ _ _ _ _ _ _ _ _ rfl))),hideR (below_go' (below_go' (new_on' _ _) (new_on' _ _)) (drew_on _))⟩
   obtain ⟨p,q,rfl,rfl,SX,SY,HC⟩:=hcut
   clear g0 g1 g2 g3 g4 g5 g6 h0 h1 h2 h3 h4 h5 h6 z1 z2
   have HP:=hideR (below_go' HP.out HC.out)
   have AX4:=hideR (AX4.out.on HC.out)
   have AY4:=hideR (AY4.out.on HC.out)
   have AX5:=hideR (At.on HC.out _ _ _ AX5.out)
   have AY5:=hideR (At.on HC.out _ _ _ AY5.out)
   have AX6:=hideR (At.on HC.out _ _ _ AX6.out)
   have AY6:=hideR (At.on HC.out _ _ _ AY6.out)
   clear HC
   obtain ⟨g0,g1,g2,g3,g4,g5,g6⟩:=SX.out
   obtain ⟨h0,h1,h2,h3,h4,h5,h6⟩:=SY.out
   have HN2:Hid (R=(sam1 (samI d) x y && samL (samI d) (a.drop (j+1)) (b.drop (j+1)))):=HN
   unfold sam1 at HN2
   clear HN
   by_cases eop:x.op=y.op
   rotate_left
   ·have top:(x.op != y.op)=true:=by rw [bne_iff_ne];exact eop
    obtain rfl:R=false:=by rw [HN2.out,decide_eq_false eop];rfl
    clear HN2
    go_wp2
    go_ret
    exact ⟨rfl,HP.out⟩
   have top:(x.op != y.op)=false:=by rw [bne_eq_false_iff_eq];exact eop
   rw [decide_eq_true eop,Bool.true_and] at HN2
   by_cases ea:x.a=y.a
   rotate_left
   ·have ta:(x.a != y.a)=true:=by rw [bne_iff_ne];exact ea
    obtain rfl:R=false:=by rw [HN2.out,decide_eq_false ea];rfl
    clear HN2
    go_wp2
    go_ret
    exact ⟨rfl,HP.out⟩
   have ta:(x.a != y.a)=false:=by rw [bne_eq_false_iff_eq];exact ea
   rw [decide_eq_true ea,Bool.true_and] at HN2
   by_cases eb:x.b=y.b
   rotate_left
   ·have tb:(x.b != y.b)=true:=by rw [bne_iff_ne];exact eb
    obtain rfl:R=false:=by rw [HN2.out,decide_eq_false eb];rfl
    clear HN2
    go_wp2
    go_ret
    exact ⟨rfl,HP.out⟩
   have tb:(x.b != y.b)=false:=by rw [bne_eq_false_iff_eq];exact eb
   rw [decide_eq_true eb,Bool.true_and] at HN2
   by_cases en:x.n=y.n
   rotate_left
   ·have tn:(x.n != y.n)=true:=by rw [bne_iff_ne];exact en
    obtain rfl:R=false:=by rw [HN2.out,decide_eq_false en];rfl
    clear HN2
    go_wp2
    go_ret
    exact ⟨rfl,HP.out⟩
   have tn:(x.n != y.n)=false:=by rw [bne_eq_false_iff_eq];exact en
   rw [decide_eq_true en,Bool.true_and] at HN2
   go_wp2_with fail
   refine (refKeep _ _ x.labels y.labels _ AX4.out AY4.out).mono ?_
   rintro e u1 ⟨rfl,nd,hnd⟩
   have hb:Below wc.heap.size wc u1:=by rw [hnd];exact below_drewN' _ _
   clear hnd
   have HP:=hideR (below_go' HP.out hb)
   have SX:=hideR (SX.out.on hb)
   have SY:=hideR (SY.out.on hb)
   have AX5:=hideR (At.on hb _ _ _ AX5.out)
   have AY5:=hideR (At.on hb _ _ _ AY5.out)
   have AX6:=hideR (At.on hb _ _ _ AX6.out)
   have AY6:=hideR (At.on hb _ _ _ AY6.out)
   clear hb g0 g1 g2 g3 g4 g5 g6 h0 h1 h2 h3 h4 h5 h6 AX4 AY4
   generalize decide (x.labels=y.labels)=tl at *
   cases tl with
   | false =>
    obtain rfl:R=false:=HN2.out
    clear HN2
    go_wp2
    go_ret
    exact ⟨rfl,HP.out⟩
   | true =>
   obtain ⟨g0,g1,g2,g3,g4,g5,g6⟩:=SX.out
   obtain ⟨h0,h1,h2,h3,h4,h5,h6⟩:=SY.out
   go_wp2_with fail
   refine (IH _ _ x.body y.body _ AX5.out AY5.out).mono ?_
   rintro e u2 ⟨rfl,hb⟩
   have HP:=hideR (below_go' HP.out hb)
   have SX:=hideR (SX.out.on hb)
   have SY:=hideR (SY.out.on hb)
   have AX6:=hideR (At.on hb _ _ _ AX6.out)
   have AY6:=hideR (At.on hb _ _ _ AY6.out)
   clear hb g0 g1 g2 g3 g4 g5 g6 h0 h1 h2 h3 h4 h5 h6 AX5 AY5
   generalize samI d x.body y.body=tb at *
   cases tb with
   | false =>
    obtain rfl:R=false:=HN2.out
    clear HN2
    go_wp2
    go_ret
    exact ⟨rfl,HP.out⟩
   | true =>
   obtain ⟨g0,g1,g2,g3,g4,g5,g6⟩:=SX.out
   obtain ⟨h0,h1,h2,h3,h4,h5,h6⟩:=SY.out
   go_wp2_with fail
   refine (IH _ _ x.els y.els _ AX6.out AY6.out).mono ?_
   rintro e u3 ⟨rfl,hb⟩
   have HP:=hideR (below_go' HP.out hb)
   clear hb g0 g1 g2 g3 g4 g5 g6 h0 h1 h2 h3 h4 h5 h6 AX6 AY6 SX SY
   generalize samI d x.els y.els=te at *
   cases te with
   | false =>
    obtain rfl:R=false:=HN2.out
    clear HN2
    go_wp2
    go_ret
    exact ⟨rfl,HP.out⟩
   | true =>
   have HN3:Hid (R=samL (samI d) (a.drop (j+1)) (b.drop (j+1))):=hideR (by rw [HN2.out];simp only [Bool.true_and])
   clear HN2
   go_wp2
   go_roundw
   case rel=>exact ⟨j+1,by omega,by go_num,HN3,HP⟩
   case measure=>simp [RowKit.intOf];omega
  ·obtain rfl:R=true:=by rw [HK.out,List.drop_of_length_le (by omega),List.drop_of_length_le (by omega)];rfl
   clear HK
   go_wp2
   go_ret
   exact ⟨rfl,HP.out⟩
theorem refInstrs:∀(d:Nat),SameSays d
 | 0=>fun va vb a b w ⟨oa,ca,hva⟩ ⟨ob,cb,hvb⟩=>by
  subst hva
  subst hvb
  exact (refInstrs0 oa ob ca cb w).mono fun e w' ⟨h1,h2⟩=>⟨h1,by rw [h2];exact Below.refl _ _⟩
 | d+1=>fun va vb a b w hA hB=>refInstrsS d (refInstrs d) va vb a b w hA hB
end Go.Proofs.YthfapccopngfhaaDoor

namespace Go.Proofs.YthfapccopngfhaaDoor
open Go.RowKit Rep Dec
set_option linter.unusedVariables false
namespace Dec
theorem samL_rf {α:Type} {f:α->α->Bool} (hf:∀x,f x x=true):∀l,samL f l l=true
 | []=>rfl
 | x :: r=>by unfold samL sam1;rw [samL_rf hf r,hf,hf];simp
theorem samI_rf:∀(d:Nat) (l:IL d),samI d l l=true
 | 0,_=>rfl
 | d+1,l=>samL_rf (samI_rf d) l
end Dec
set_option maxRecDepth 100000 in
set_option maxHeartbeats 16000000 in
theorem exprsC (s:ByteArray) (a:Int) (w:World) (hI:UtfI w) :
  Calls Tryd.prog 3 #[.string s,.int .i64 a] w fun e w'=>e=.returned (.bool true)/\Below w.heap.size w w':=by
 have HI:=hideR hI
 clear hI
 by_cases hl:20000<s.size
 ·have dl:decide ((s.size:Int) > 20000)=true:=decide_eq_true (by omega)
  go_enter Tryd.func3,Tryd.ntmps3
  go_wp2_with fail
  refine (dWakes _ HI.out).mono ?_
  rintro e u3 ⟨rfl,hb3⟩
  have HB3:=hideR hb3
  clear hb3
  go_wp2
  go_ret
  exact ⟨rfl,HB3.out⟩
 have dl:decide ((s.size:Int) > 20000)=false:=decide_eq_false (by omega)
 have hx1:=dExpr s a w (by omega)
 have hx2:=fun u=>yExpr s a u (by omega)
 unfold XSays at hx1 hx2
 clear hl
 cases hx:xE s a with
 | error z =>
  rw [hx] at hx1
  simp only [hx] at hx2
  have H1:=hideR hx1
  have H2:=fun u=>hideR (hx2 u)
  have hzz:(z == z)=true:=by simp
  clear hx hx1 hx2
  go_enter Tryd.func3,Tryd.ntmps3
  go_wp2_with fail
  refine H1.out.mono ?_
  rintro e u1 ⟨hb1,rfl⟩
  have HB1:=hideR hb1
  clear hb1 H1
  go_wp2_with fail
  refine (H2 _).out.mono ?_
  rintro e u2 ⟨hb2,rfl⟩
  have HB2:=hideR (below_go' HB1.out hb2)
  clear hb2 H2 HB1
  have HRI:=hideR (refInstrs 81 (.slice none 0 0) (.slice none 0 0) (none_ 81) (none_ 81) u2 (AtS.at 81 _ _ (at_nil _ (fun _=>True) 81)) (AtS.at 81 _ _ (at_nil _ (fun _=>True) 81)))
  rw [samI_rf] at HRI
  go_wp2_with fail
  refine HRI.out.mono ?_
  rintro e u3 ⟨rfl,hb3⟩
  have HB3:=hideR (below_go' HB2.out hb3)
  clear hb3 HRI HB2
  go_wp2_with fail
  refine (dWakes _ (utfI_go HI.out HB3.out)).mono ?_
  rintro e u4 ⟨rfl,hb4⟩
  have HB4:=hideR (below_go' HB3.out hb4)
  clear hb4
  go_wp2
  go_ret
  exact ⟨rfl,HB4.out⟩
 | ok v =>
  obtain ⟨l,j,m⟩:=v
  rw [hx] at hx1
  simp only [hx] at hx2
  have H1:=hideR hx1
  have H2:=fun u=>hideR (hx2 u)
  have hjj:((j:Int) == (j:Int))=true:=by simp
  clear hx hx1 hx2
  go_enter Tryd.func3,Tryd.ntmps3
  go_wp2_with fail
  refine H1.out.mono ?_
  rintro e u1 ⟨hb1,o1,n1,k1,rfl,hA1⟩
  have HB1:=hideR hb1
  have HA1:=hideR hA1
  clear hb1 H1 hA1
  go_wp2_with fail
  refine (H2 _).out.mono ?_
  rintro e u2 ⟨hb2,o2,n2,k2,rfl,hA2⟩
  have HB2:=hideR (below_go' HB1.out hb2)
  have HRI:=hideR (refInstrs 81 _ _ l l u2 (At.on hb2 81 _ _ HA1.out) hA2)
  rw [samI_rf] at HRI
  clear hb2 H2 HB1 hA2 HA1
  go_wp2_with fail
  refine HRI.out.mono ?_
  rintro e u3 ⟨rfl,hb3⟩
  have HB3:=hideR (below_go' HB2.out hb3)
  clear hb3 HRI HB2
  go_wp2_with fail
  refine (dWakes _ (utfI_go HI.out HB3.out)).mono ?_
  rintro e u4 ⟨rfl,hb4⟩
  have HB4:=hideR (below_go' HB3.out hb4)
  clear hb4
  go_wp2
  go_ret
  exact ⟨rfl,HB4.out⟩
end Go.Proofs.YthfapccopngfhaaDoor

namespace Go.Proofs.YthfapccopngfhaaDoor
open Go.RowKit Go.Shelf Go.Lib Rep
theorem own:ownKnob Tryd.prog.godebug=none:=by kernel_rfl
theorem acceptIs:(Rows.laid_unicode_utf8_acceptRanges:DataW Unit)=Lib.acceptData:=by kernel_rfl
theorem firstIs:Rows.laid_unicode_utf8_first=Lib.firstData:=by kernel_rfl
theorem tabsOf {W : World} (hL : laidMetH Tryd.prog [("unicode/utf8.acceptRanges", Rows.laid_unicode_utf8_acceptRanges), ("unicode/utf8.first", Rows.laid_unicode_utf8_first)] W) : UtfI W := by
 rw [acceptIs,firstIs] at hL
 have hM : laidMet Tryd.prog [("unicode/utf8.acceptRanges", Lib.acceptData), ("unicode/utf8.first", Lib.firstData)] W := hL
 exact utf8Tabs_of_readsT (U8Types.of196 Tryd.laysValid) ⟨by kernel_rfl,by kernel_rfl,by kernel_rfl,by kernel_rfl,by kernel_rfl,by kernel_rfl,by kernel_rfl⟩ (Lib.laidMet.reads hM (.tail _ (.head _))) (Lib.laidMet.reads hM (.head _))
noncomputable def laidWorld (os:Os):World :=
 let w0:=World.holding Tryd.prog os ⟨#[],#[],[]⟩
 let put (h:Array Obj) (g:Nat) (cs:Array Value):Array Obj:=h.modify g fun
  | .cells _ t frozen=>.cells cs t frozen
  | o=>o
 let h1:=put w0.heap 0 (Lib.firstTab.map fun z=>Value.int .u8 z).toArray
 let h2:=put h1 1 ((List.range 16).flatMap fun i=>[Value.int .u8 (Lib.accLo i),Value.int .u8 (Lib.accHi i)]).toArray
 { w0 with heap:=h2 }
theorem laid_met (os : Os) (args : Array Value) : laidMet Tryd.prog [("unicode/utf8.acceptRanges", Rows.laid_unicode_utf8_acceptRanges), ("unicode/utf8.first", Rows.laid_unicode_utf8_first)] ((laidWorld os).forCall (fun _ _ => 0) ⟨#[], args, []⟩).memory := by
 rw [acceptIs,firstIs]
 exact (LaidIn.of_run (l := [("unicode/utf8.acceptRanges", Lib.acceptData), ("unicode/utf8.first", Lib.firstData)]) [1, 0] 8 (by kernel_rfl) (by kernel_rfl) (by kernel_rfl) (by kernel_rfl)).met
end Go.Proofs.YthfapccopngfhaaDoor

