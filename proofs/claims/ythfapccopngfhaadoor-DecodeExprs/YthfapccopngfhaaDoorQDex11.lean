/- Texts that the claim needs. -/
import Derived.Test.YthfapccopngfhaaDoorQDex10
namespace Go.Proofs.YthfapccopngfhaaDoor
open Go.RowKit Rep Dec
set_option linter.unusedVariables false
section
variable (w0:World) (p:Nat) (s:ByteArray) (en i n:Nat) (z:Int) (w:World) (h:DS w0 p s en i n z w)
include h
set_option maxRecDepth 100000 in
set_option maxHeartbeats 2000000 in
theorem yS (bits:Int):Calls Tryd.prog 34 #[.pointer (some ⟨p,0,none⟩),.int .i64 bits] w (DR w0 p s en vInt z0 w (stk z (lift (rs s en bits i) n))):=by
 have c0:=h.cell 0 _ rfl
 have c1:=h.cell 1 _ rfl
 have c2:=h.cell 2 _ rfl
 have c4:=h.cell 4 _ rfl
 have hle:=h.len
 have hz':(s.extract 0 en).size=en:=by rw [ByteArray.size_extract];omega
 have HU:=fun u=>(c17 (s.extract 0 en) i bits u (by have:=h.big;omega))
 have H:=hideR h
 have ht:((en:Int).toNat)=en:=by omega
 by_cases hz:z=0
 ·subst hz
  unfold stk rs
  rw [if_pos rfl]
  obtain ⟨N,hN⟩:∃N,N=(Leb.sRead (s.extract 0 en) i bits).1:=⟨_,rfl⟩
  obtain ⟨J,hJ⟩:∃J,J=(Leb.sRead (s.extract 0 en) i bits).2.1:=⟨_,rfl⟩
  obtain ⟨E,hE⟩:∃E,E=(Leb.sRead (s.extract 0 en) i bits).2.2:=⟨_,rfl⟩
  have hok:=sRead_at (s.extract 0 en) i bits
  rw [<- hN,<- hJ,<- hE,hz'] at hok
  rw [<- hN,<- hJ,<- hE]
  simp only [<- hN,<- hJ,<- hE] at HU
  clear hN hJ hE h
  by_cases he:E=0
  ·rw [if_pos he]
   obtain ⟨b1,b2,b3,b4⟩:=hok he
   obtain ⟨j,rfl⟩:∃j:Nat,J=(j:Int):=⟨J.toNat,by omega⟩
   subst he
   have hej:((j:Int).toNat)=j:=by omega
   rw [hej]
   have HBj:Hid (j<=en):=hideR (by omega)
   clear hok hz' hej b1 b2
   go_enter Tryd.func34,Tryd.ntmps34
   go_wp2_with fail
   go_quiet (first|(go_at_call 61;exact Calls.quiet_of_same (HU _)))
   have HD:=hideR (H.out.on (below_drewN' w nq))
   have HB:Hid (But p w (w.drewN nq)):=hideR (But.of p (below_drewN' w nq))
   generalize w.drewN nq=u1 at *
   clear c0 c1 c2 c4 H HU
   have d1:=HD.out.cell 1 _ rfl
   have f1:=HD.out.frz 1
   have H2:=hideR (HD.out.at_ HBj.out)
   have HB2:Hid (But p w (u1.setCell ⟨p,1,none⟩ (.int .i64 j))):=hideR (HB.out.trans (But.set p 1 u1 _))
   clear HD HB
   go_wp2
   go_ret
   exact ⟨_,rfl,rfl,H2.out,HB2.out⟩
  ·rw [if_neg he]
   have b1:(E != 0)=true:=by simp [he]
   clear hok hz'
   go_enter Tryd.func34,Tryd.ntmps34
   go_wp2_with fail
   go_quiet (first|(go_at_call 61;exact Calls.quiet_of_same (HU _)))
   have HD:=hideR (H.out.on (below_drewN' w nq))
   have HB:Hid (But p w (w.drewN nq)):=hideR (But.of p (below_drewN' w nq))
   generalize w.drewN nq=u1 at *
   clear c0 c1 c2 c4 H HU
   go_wp2_with fail
   refine (yBad w0 p s en i n 0 _ HD.out 50).mono ?_
   rintro e u ⟨rfl,h1,h2⟩
   have H1:=hideR h1
   have H2:Hid (But p w u):=hideR (HB.out.trans h2)
   clear h1 h2
   go_wp2
   go_ret
   exact ⟨by decide,_,i,n,rfl,rfl,H1.out,H2.out⟩
 ·have b1:(z != 0)=true:=by simp [hz]
  clear h HU
  unfold stk
  rw [if_neg hz]
  go_enter Tryd.func34,Tryd.ntmps34
  go_wp2
  go_ret
  exact ⟨hz,_,i,n,rfl,rfl,H.out,But.refl p w⟩
set_option maxRecDepth 100000 in
set_option maxHeartbeats 2000000 in
theorem yCnt:Calls Tryd.prog 60 #[.pointer (some ⟨p,0,none⟩)] w (DR w0 p s en vInt z0 w (stk z (lift (rc s en i) n))):=by
 have HY:=hideR (yU w0 p s en i n z w h)
 have hlen:=h.len
 clear h
 unfold rc
 rw [lift_bd,stk_bd]
 have hbd:∀x j m,stk z (lift (ru s en i) n)=.ok (x,j,m)->0<=x/\x<=4294967295:=fun x j m hx=>by
  unfold stk at hx
  by_cases hz:z=0
  ·rw [if_pos hz] at hx
   exact (ru_ok hlen (lift_in hx).1).2.2
  ·rw [if_neg hz] at hx;cases hx
 generalize stk z (lift (ru s en i) n)=X at HY hbd ⊢
 cases X with
 | error y =>
  show Calls _ _ _ _ (DR w0 p s en vInt z0 w (.error y))
  go_enter Tryd.func60,Tryd.ntmps60
  go_wp2_with fail
  refine HY.out.mono ?_
  rintro e u ⟨hy,v,i2,n2,rfl,hv,h1,h2⟩
  have hv:v=.int .i64 0:=hv
  subst hv
  have H1:=hideR h1
  have H2:=hideR h2
  have hy':=hideR hy
  clear h1 h2 HY hy hbd
  go_wp2
  go_ret
  exact ⟨hy'.out,_,i2,n2,rfl,rfl,H1.out,H2.out⟩
 | ok v =>
  obtain ⟨x,j,m⟩:=v
  obtain ⟨b1,b2⟩:=hbd x j m rfl
  show Calls _ _ _ _ (DR w0 p s en vInt z0 w (lift (if x<=4096 then .ok (x,j) else .error 3) m))
  by_cases hx:x<=4096
  ·rw [if_pos hx]
   have d1:decide (x > 4096)=false:=decide_eq_false (by omega)
   go_enter Tryd.func60,Tryd.ntmps60
   go_wp2_with fail
   refine HY.out.mono ?_
   rintro e u ⟨v,rfl,hv,h1,h2⟩
   have hv:v=.int .i64 x:=hv
   subst hv
   have H1:=hideR h1
   have H2:=hideR h2
   clear h1 h2 HY hbd
   go_wp2
   go_ret
   exact ⟨_,rfl,rfl,H1.out,H2.out⟩
  ·rw [if_neg hx]
   have d1:decide (x > 4096)=true:=decide_eq_true (by omega)
   go_enter Tryd.func60,Tryd.ntmps60
   go_wp2_with fail
   refine HY.out.mono ?_
   rintro e u ⟨v,rfl,hv,h1,h2⟩
   have hv:v=.int .i64 x:=hv
   subst hv
   have H1:=hideR h1
   have H2:=hideR h2
   clear h1 h2 HY hbd
   go_wp2_with fail
   refine (yBad w0 p s en j m 0 _ H1.out 3).mono ?_
   rintro e u3 ⟨rfl,h3,h4⟩
   rw [if_pos rfl] at h3
   have H3:=hideR h3
   have H4:Hid (But p w u3):=hideR (H2.out.trans h4)
   clear h3 h4
   go_wp2
   go_ret
   exact ⟨by decide,_,j,m,rfl,rfl,H3.out,H4.out⟩
end
end Go.Proofs.YthfapccopngfhaaDoor

namespace Go.Proofs.YthfapccopngfhaaDoor
open Go.RowKit Rep Dec
set_option linter.unusedVariables false
namespace Dec
def i0 (v:Value) (_:World):Prop:=∃t:Int,v=.int .i64 t
end Dec
section
variable (w0:World) (p:Nat) (s:ByteArray) (en i n:Nat) (z:Int) (w:World) (h:DS w0 p s en i n z w)
include h
set_option maxRecDepth 100000 in
set_option maxHeartbeats 2000000 in
theorem yTyp:Calls Tryd.prog 58 #[.pointer (some ⟨p,0,none⟩)] w (DR w0 p s en vInt i0 w (stk z (lift (rt s en i) n))):=by
 have HY:=hideR (yByte w0 p s en i n z w h)
 clear h
 unfold rt
 rw [lift_bd,stk_bd]
 generalize stk z (lift (nx s en i) n)=X at HY ⊢
 cases X with
 | error y =>
  show Calls _ _ _ _ (DR w0 p s en vInt i0 w (.error y))
  go_enter Tryd.func58,Tryd.ntmps58
  go_wp2_with fail
  refine HY.out.mono ?_
  rintro e u ⟨hy,v,i2,n2,rfl,hv,h1,h2⟩
  have hv:v=.int .i64 0:=hv
  subst hv
  have b1:(y != 0)=true:=by simp [hy]
  have c4:=h1.cell 4 _ rfl
  have H1:=hideR h1
  have H2:=hideR h2
  have hy':=hideR hy
  clear h1 h2 HY hy
  go_wp2
  go_ret
  exact ⟨hy'.out,_,i2,n2,rfl,⟨0,rfl⟩,H1.out,H2.out⟩
 | ok v =>
  obtain ⟨x,j,m⟩:=v
  show Calls _ _ _ _ (DR w0 p s en vInt i0 w (lift (vty x j) m))
  have bads:∀(k:Int) (hk:k≠0) (u:World) (h1:DS w0 p s en j m 0 u) (h2:But p w u),Calls Tryd.prog 20 #[.pointer (some ⟨p,0,none⟩),.int .i64 k] u fun e w'=>e=.returned (.tuple #[])/\DS w0 p s en j m k w'/\But p w w':=fun k hk u h1 h2=>(yBad w0 p s en j m 0 u h1 k).mono fun e w' ⟨a,b,c⟩=>⟨a,by rw [if_pos rfl] at b;exact b,h2.trans c⟩
  have HBD:=hideR bads
  clear bads
  unfold vty
  by_cases h1:x=124\/x=125
  ·rw [if_pos h1]
   have hk:(x == 125)=true\/((x == 125)=false/\(x == 124)=true):=by
    rcases h1 with h|h
    ·right;subst h;decide
    ·left;subst h;decide
   rcases hk with k1|⟨k1,k2⟩
   all_goals (
    go_enter Tryd.func58,Tryd.ntmps58
    go_wp2_with fail
    refine HY.out.mono ?_
    rintro e u ⟨v,rfl,hv,h1,h2⟩
    have hv:v=.int .i64 x:=hv
    subst hv
    have c4:=h1.cell 4 _ rfl
    have H1:=hideR h1
    have H2:=hideR h2
    clear h1 h2 HY
    go_wp2_with fail
    refine (HBD.out 51 (by decide) _ H1.out H2.out).mono ?_
    rintro e u3 ⟨rfl,h3,h4⟩
    have H3:=hideR h3
    have H4:=hideR h4
    clear h3 h4
    go_wp2
    go_ret
    exact ⟨by decide,_,j,m,rfl,⟨x,rfl⟩,H3.out,H4.out⟩)
  ·rw [if_neg h1]
   have k1:(x == 125)=false:=by simp;omega
   have k2:(x == 124)=false:=by simp;omega
   by_cases h2:x=127\/x=126
   ·rw [if_pos h2]
    have hk:(x != 127)=false\/((x != 127)=true/\(x != 126)=false):=by
     rcases h2 with h|h
     ·left;subst h;decide
     ·right;subst h;decide
    rcases hk with k3|⟨k3,k4⟩
    all_goals (
     go_enter Tryd.func58,Tryd.ntmps58
     go_wp2_with fail
     refine HY.out.mono ?_
     rintro e u ⟨v,rfl,hv,h1,h2⟩
     have hv:v=.int .i64 x:=hv
     subst hv
     have c4:=h1.cell 4 _ rfl
     have H1:=hideR h1
     have H2:=hideR h2
     clear h1 h2 HY
     go_wp2
     go_ret
     exact ⟨_,rfl,rfl,H1.out,H2.out⟩)
   ·rw [if_neg h2]
    have k3:(x != 127)=true:=by simp;omega
    have k4:(x != 126)=true:=by simp;omega
    go_enter Tryd.func58,Tryd.ntmps58
    go_wp2_with fail
    refine HY.out.mono ?_
    rintro e u ⟨v,rfl,hv,h1,h2⟩
    have hv:v=.int .i64 x:=hv
    subst hv
    have c4:=h1.cell 4 _ rfl
    have H1:=hideR h1
    have H2:=hideR h2
    clear h1 h2 HY
    go_wp2_with fail
    refine (HBD.out 50 (by decide) _ H1.out H2.out).mono ?_
    rintro e u3 ⟨rfl,h3,h4⟩
    have H3:=hideR h3
    have H4:=hideR h4
    clear h3 h4
    go_wp2
    go_ret
    exact ⟨by decide,_,j,m,rfl,⟨x,rfl⟩,H3.out,H4.out⟩
set_option maxRecDepth 100000 in
set_option maxHeartbeats 2000000 in
theorem yRes:Calls Tryd.prog 30 #[.pointer (some ⟨p,0,none⟩)] w (DR w0 p s en vInt i0 w (stk z (lift (rres s en i) n))):=by
 have c0:=h.cell 0 _ rfl
 have c1:=h.cell 1 _ rfl
 have c2:=h.cell 2 _ rfl
 have c4:=h.cell 4 _ rfl
 have hlen:=h.len
 have H:=hideR h
 have HT:Hid (∀u,Below w.heap.size w u->Calls Tryd.prog 58 #[.pointer (some ⟨p,0,none⟩)] u (DR w0 p s en vInt i0 w (stk z (lift (rt s en i) n)))):=hideR fun u hb=>(yTyp w0 p s en i n z u (h.on hb)).mono fun e w' hx=>by
  generalize stk z (lift (rt s en i) n)=X at hx ⊢
  cases X with
  | error y=>obtain ⟨a,v,i2,n2,b,c,d,f⟩:=hx;exact ⟨a,v,i2,n2,b,c,d,(But.of p hb).trans f⟩
  | ok x=>obtain ⟨v,b,c,d,f⟩:=hx;exact ⟨v,b,c,d,(But.of p hb).trans f⟩
 by_cases hz:z=0
 ·subst hz
  by_cases hi:i<en
  ·have hlt:i<s.size:=by omega
   have hbt:((s[i]'hlt).toNat:Int)=Leb.bt s i:=Leb.get_bt s i hlt
   have hnx:nx s en i=.ok (Leb.bt s i,i+1):=by unfold nx;rw [if_pos hi]
   have dl:decide ((i:Int)<(en:Int))=true:=decide_eq_true (by omega)
   by_cases hb:Leb.bt s i=64
   ·have e1:rres s en i=.ok (0,i+1):=by unfold rres;rw [hnx,bd_ok,if_pos hb]
    rw [e1]
    have q1:(Leb.bt s i == 64)=true:=by simp [hb]
    have hw:IntKind.i64.wrap ((i:Int)+1)=(i:Int)+1:=by have:=h.big;rw [IntKind.wrap_i64];omega
    have hie:i+1<=en:=by omega
    clear h HT
    go_enter Tryd.func30,Tryd.ntmps30
    go_wp2_with fail
    go_quiet (fail)
    have HD:=hideR (H.out.on (below_drewN' w nq))
    have HB:Hid (But p w (w.drewN nq)):=hideR (But.of p (below_drewN' w nq))
    generalize w.drewN nq=u1 at *
    clear c0 c1 c2 c4 H
    have d1:=HD.out.cell 1 _ rfl
    have f1:=HD.out.frz 1
    have H2:=hideR (HD.out.at_ hie)
    have HB2:Hid (But p w (u1.setCell ⟨p,1,none⟩ (.int .i64 ((i+1:Nat):Int)))):=hideR (HB.out.trans (But.set p 1 u1 _))
    rw [show (((i+1:Nat):Int))=(i:Int)+1 by omega] at H2 HB2
    clear HD HB
    go_wp2
    go_ret
    exact ⟨_,rfl,rfl,H2.out,HB2.out⟩
   ·have e1:rres s en i=rt s en i:=by unfold rres rt;rw [hnx,bd_ok,bd_ok,if_neg hb]
    rw [e1]
    have q1:(Leb.bt s i == 64)=false:=by simp [hb]
    clear h
    have FIN:Hid (∀X,stk 0 (lift (rt s en i) n)=X->∀e w',DR w0 p s en vInt i0 w X e w'->DR w0 p s en vInt i0 w (stk 0 (lift (rt s en i) n)) e w'):=hideR fun X hX _ _ h=>hX ▸ h
    go_enter Tryd.func30,Tryd.ntmps30
    go_wp2_with fail
    go_quiet (fail)
    go_wp2_with fail
    have HX:=hideR (HT.out _ (below_drewN' w nq))
    generalize hX:stk 0 (lift (rt s en i) n)=X at HX
    refine HX.out.mono ?_
    intro e u hx
    cases X with
    | error y =>
     obtain ⟨a,v,i2,n2,rfl,⟨t,rfl⟩,d,f⟩:=hx
     have H3:=hideR (And.intro a (And.intro d f))
     clear d f HX a
     go_wp2
     go_ret
     refine FIN.out _ hX _ _ ?_
     exact ⟨H3.out.1,_,i2,n2,rfl,⟨t,rfl⟩,H3.out.2.1,H3.out.2.2⟩
    | ok x =>
     obtain ⟨x,j,m⟩:=x
     obtain ⟨v,rfl,hv,d,f⟩:=hx
     have hv:v=.int .i64 x:=hv
     subst hv
     have H3:=hideR (And.intro d f)
     clear d f HX
     go_wp2
     go_ret
     refine FIN.out _ hX _ _ ?_
     exact ⟨_,rfl,rfl,H3.out.1,H3.out.2⟩
  ·have hnx:nx s en i=.error 50:=by unfold nx;rw [if_neg hi]
   have dl:decide ((i:Int)<(en:Int))=false:=decide_eq_false (by omega)
   have e1:rres s en i=rt s en i:=by unfold rres rt;rw [hnx];rfl
   rw [e1]
   clear h
   have FIN:Hid (∀X,stk 0 (lift (rt s en i) n)=X->∀e w',DR w0 p s en vInt i0 w X e w'->DR w0 p s en vInt i0 w (stk 0 (lift (rt s en i) n)) e w'):=hideR fun X hX _ _ h=>hX ▸ h
   go_enter Tryd.func30,Tryd.ntmps30
   go_wp2_with fail
   go_quiet (fail)
   go_wp2_with fail
   have HX:=hideR (HT.out _ (below_drewN' w nq))
   generalize hX:stk 0 (lift (rt s en i) n)=X at HX
   refine HX.out.mono ?_
   intro e u hx
   cases X with
   | error y =>
    obtain ⟨a,v,i2,n2,rfl,⟨t,rfl⟩,d,f⟩:=hx
    have H3:=hideR (And.intro a (And.intro d f))
    clear d f HX a
    go_wp2
    go_ret
    refine FIN.out _ hX _ _ ?_
    exact ⟨H3.out.1,_,i2,n2,rfl,⟨t,rfl⟩,H3.out.2.1,H3.out.2.2⟩
   | ok x =>
    obtain ⟨x,j,m⟩:=x
    obtain ⟨v,rfl,hv,d,f⟩:=hx
    have hv:v=.int .i64 x:=hv
    subst hv
    have H3:=hideR (And.intro d f)
    clear d f HX
    go_wp2
    go_ret
    refine FIN.out _ hX _ _ ?_
    exact ⟨_,rfl,rfl,H3.out.1,H3.out.2⟩
 ·have q1:(z == 0)=false:=by simp [hz]
  have e1:stk z (lift (rres s en i) n)=stk z (lift (rt s en i) n):=by unfold stk;rw [if_neg hz,if_neg hz]
  rw [e1]
  clear h
  have FIN:Hid (∀X,stk z (lift (rt s en i) n)=X->∀e w',DR w0 p s en vInt i0 w X e w'->DR w0 p s en vInt i0 w (stk z (lift (rt s en i) n)) e w'):=hideR fun X hX _ _ h=>hX ▸ h
  go_enter Tryd.func30,Tryd.ntmps30
  go_wp2_with fail
  go_quiet (fail)
  go_wp2_with fail
  have HX:=hideR (HT.out _ (below_drewN' w nq))
  generalize hX:stk z (lift (rt s en i) n)=X at HX
  refine HX.out.mono ?_
  intro e u hx
  cases X with
  | error y =>
   obtain ⟨a,v,i2,n2,rfl,⟨t,rfl⟩,d,f⟩:=hx
   have H3:=hideR (And.intro a (And.intro d f))
   clear d f HX a
   go_wp2
   go_ret
   refine FIN.out _ hX _ _ ?_
   exact ⟨H3.out.1,_,i2,n2,rfl,⟨t,rfl⟩,H3.out.2.1,H3.out.2.2⟩
  | ok x =>
   obtain ⟨x,j,m⟩:=x
   obtain ⟨v,rfl,hv,d,f⟩:=hx
   have hv:v=.int .i64 x:=hv
   subst hv
   have H3:=hideR (And.intro d f)
   clear d f HX
   go_wp2
   go_ret
   refine FIN.out _ hX _ _ ?_
   exact ⟨_,rfl,rfl,H3.out.1,H3.out.2⟩
end
end Go.Proofs.YthfapccopngfhaaDoor

namespace Go.Proofs.YthfapccopngfhaaDoor
open Go.RowKit Rep Dec
set_option linter.unusedVariables false
namespace Dec
def s0 (v:Value) (_:World):Prop:=∃o n k,v=.slice o n k
theorem DS.grown {w0 w w9:World} {p:Nat} {s:ByteArray} {en i n:Nat} {z:Int} {o:Option Nat} (h:DS w0 p s en i n z w) (hg:w.grownBy w9 o) (ho:∀q,o=some q->p<q):DS w0 p s en i n z w9 :=
 ⟨h.below.grown hg h.below.size (fun q hq=>by have:=ho q hq;have:=h.base;omega),h.base,by rw [hg.block p h.lt (fun e=>by have:=ho p e.symm;omega)];exact h.blk,h.le,h.len,h.big⟩
def LL (w0:World) (p:Nat) (s:ByteArray) (en n:Nat) (w:World) (m:Nat) (R:R2 (List Int)) (q:Nat) (t:Value) (wr:World):Prop :=
 (∃(l:List Int) (jq:Nat),l.length=q/\(∃o c,t=.slice o q c)/\R=lift (pre l (rep (ru s en) (m-q) jq)) n/\DS w0 p s en jq n 0 wr/\wr.ownsRow w.heap.size 3 1 t q (l.map fun z=>Value.int .i64 z)) \/
 ∃y i' n',y≠0/\R=.error y/\(∃o k c,t=.slice o k c)/\DS w0 p s en i' n' y wr
end Dec
set_option maxRecDepth 100000 in
set_option maxHeartbeats 4000000 in
theorem yList (w0:World) (p:Nat) (s:ByteArray) (en i n:Nat) (z:Int) (w:World) (h:DS w0 p s en i n z w) :
  Calls Tryd.prog 32 #[.pointer (some ⟨p,0,none⟩)] w (DR w0 p s en (vInts w.heap.size) s0 w (stk z (lift (rl s en i) n))):=by
 have HC:=hideR (yCnt w0 p s en i n z w h)
 have hpw:=h.lt
 have hlen:=h.len
 have hrc:∀x j m,stk z (lift (rc s en i) n)=.ok (x,j,m)->0<=x/\x<=4096/\m=n:=fun x j m hx=>by
  unfold stk at hx
  by_cases hz:z=0
  ·rw [if_pos hz] at hx
   have h1:=lift_in hx
   have h2:=rc_ok hlen h1.1
   exact ⟨h2.2.2.1,h2.2.2.2,h1.2⟩
  ·rw [if_neg hz] at hx;cases hx
 clear h
 unfold rl
 rw [lift_bd,stk_bd]
 generalize stk z (lift (rc s en i) n)=X at HC hrc ⊢
 cases X with
 | error y =>
  show Calls _ _ _ _ (DR w0 p s en (vInts w.heap.size) s0 w (.error y))
  go_enter Tryd.func32,Tryd.ntmps32
  go_wp2_with fail
  refine HC.out.mono ?_
  rintro e u ⟨hy,v,i2,n2,rfl,hv,h1,h2⟩
  have hv:v=.int .i64 0:=hv
  subst hv
  have H1:=hideR h1
  have H2:=hideR h2
  have hy':=hideR hy
  clear h1 h2 HC hy hrc
  go_wp2_with fail
  go_loopw [3,5] (fun t u wr=>t=.slice none 0 0/\u=.int .i64 0/\Hid (DS w0 p s en i2 n2 y wr)/\Hid (But p w wr)) (fun _ _ _=>0)
  case atStart=>exact ⟨rfl,rfl,H1,H2⟩
  case round =>
   obtain ⟨rfl,rfl,HS,HB⟩:=hrel
   go_wp2
   go_ret
   exact ⟨hy'.out,_,i2,n2,rfl,⟨_,_,_,rfl⟩,HS.out,HB.out⟩
 | ok v =>
  obtain ⟨x,j,m0⟩:=v
  obtain ⟨b1,b2,rfl⟩:=hrc x j m0 rfl
  obtain ⟨m,rfl⟩:∃m:Nat,x=(m:Int):=⟨x.toNat,by omega⟩
  have hm:m<=4096:=by omega
  clear hrc
  show Calls _ _ _ _ (DR w0 p s en (vInts w.heap.size) s0 w (lift (rep (ru s en) (m:Int).toNat j) m0))
  rw [show ((m:Int).toNat)=m by omega]
  obtain ⟨R,hR⟩:∃R,R=lift (rep (ru s en) m j) m0:=⟨_,rfl⟩
  rw [<- hR]
  have HR:=hideR hR
  clear hR
  go_enter Tryd.func32,Tryd.ntmps32
  go_wp2_with fail
  refine HC.out.mono ?_
  rintro e w1 ⟨v,rfl,hv,h1,h2⟩
  have hv:v=.int .i64 m:=hv
  subst hv
  have H1:=hideR h1
  have H2:=hideR h2
  clear h1 h2 HC
  go_wp2_with fail
  go_loopw [3,5] (fun t u wr=>∃(q:Nat),q<=m/\u=.int .i64 q/\Hid (LL w0 p s en m0 w m R q t wr)/\Hid (But p w wr)) (fun _ u _=>m-(RowKit.intOf u).toNat)
  case atStart=>exact ⟨0,by omega,rfl,hideR (.inl ⟨[],j,rfl,⟨none,0,rfl⟩,by rw [HR.out,pre_nil];rfl,H1.out,World.ownsRow_nil _ _ _ _⟩),H2⟩
  case round =>
   obtain ⟨q,hq,rfl,HLL,HB⟩:=hrel
   rcases HLL.out with ⟨l,jq,hl,⟨oT,cT,rfl⟩,hP,hS,hO⟩|⟨y,i',n',hy,hRy,⟨oT,kT,cT,rfl⟩,hS⟩
   ·have HP:=hideR hP
    have HS:=hideR hS
    have HO:=hideR hO
    have c4:=hS.cell 4 _ rfl
    clear hP hS hO HLL
    by_cases hgo:q<m
    ·have hU:=yU w0 p s en jq m0 0 wr HS.out
     obtain ⟨r,hr⟩:∃r,m-q=r+1:=⟨m-q-1,by omega⟩
     have hst:stk 0 (lift (ru s en jq) m0)=lift (ru s en jq) m0:=rfl
     rw [hst] at hU
     cases hu:ru s en jq with
     | error y =>
      rw [hu] at hU
      have HU:=hideR hU
      have HZ:Hid (R=.error y):=hideR (by rw [HP.out,hr,pre_err l _ r jq y hu];rfl)
      clear hU hu HP
      go_wp2_with fail
      refine HU.out.mono ?_
      rintro e w2 ⟨hy,v,i2,n2,rfl,hv,h1,h2⟩
      have hv:v=.int .i64 0:=hv
      subst hv
      have HO2:=hideR ((own_but HO.out hpw h2).alloc (.cells #[.int .i64 0] 3))
      have HN:=hideR (new_at w2 (.int .i64 0) 3)
      have HB2:=hideR ((HB.out.trans h2).trans (But.of p (new_on' w2 (.cells #[.int .i64 0] 3))))
      have HS2:=hideR (h1.on (new_on' w2 (.cells #[.int .i64 0] 3)))
      have HSZ:Hid (w.heap.size<=w2.heap.size):=hideR (Nat.le_trans HB.out.size h2.size)
      have HY:=hideR hy
      clear h1 h2 HU HO HS HB hy
      obtain ⟨i0,hi,hz0,hz1,hz2⟩:=info_parts intInfo
      go_wp2_with (first|(at_builtin;refine wpList_appS rfl _ _ 37 rfl w.heap.size 3 i0 _ 1 8 Tryd.underlying37 hi hz0 hz1 hz2 rfl (by decide) _ _ _ rfl HO2.out (some ⟨w2.heap.size,0,none⟩) 1 1 [.int .i64 0] rfl ?c6 ?c0 ?c1 ?c2 ?c3 ?c4 ?c5 ?_))
      case c6=>intro h;cases h
      case c0=>rfl
      case c1=>exact fun ad h=>by injection h with h;subst h;exact HN.out
      case c2=>exact fun u hu=>by rw [List.mem_singleton.1 hu];rfl
      case c3=>unfold maxLen;omega
      case c4=>omega
      case c5=>have:=HSZ.out;simp;omega
      intro v9 w9 hown9 hg9 _
      have ho9:∀q',(Value.slice oT q cT).ownBlock=some q'->w.heap.size<=q':=fun q' hq'=>(HO2.out.lt q' hq').1
      have HS9:=hideR (HS2.out.grown hg9 (fun q' hq'=>Nat.lt_of_lt_of_le hpw (ho9 q' hq')))
      have HB9:=hideR (But.grown (p:=p) HB2.out hg9 ho9)
      have hsl:=own_slice hown9
      clear hown9 hg9 ho9 HO2 HN HB2 HS2
      obtain ⟨oN,cN,rfl⟩:=hsl
      go_wp2
      go_roundw
      case rel=>exact ⟨q+1,by omega,by go_num,hideR (.inr ⟨y,i2,n2,HY.out,HZ.out,⟨_,_,_,rfl⟩,HS9.out⟩),HB9⟩
      case measure=>simp [RowKit.intOf];omega
     | ok v =>
      obtain ⟨y,j2⟩:=v
      rw [hu] at hU
      have HU:=hideR hU
      have HZ:Hid (R=lift (pre (l++[y]) (rep (ru s en) (m-(q+1)) j2)) m0):=hideR (by rw [HP.out,hr,pre_on l _ r jq y j2 hu,show m-(q+1)=r by omega])
      clear hU hu HP
      go_wp2_with fail
      refine HU.out.mono ?_
      rintro e w2 ⟨v,rfl,hv,h1,h2⟩
      have hv:v=.int .i64 y:=hv
      subst hv
      have HO2:=hideR ((own_but HO.out hpw h2).alloc (.cells #[.int .i64 y] 3))
      have HN:=hideR (new_at w2 (.int .i64 y) 3)
      have HB2:=hideR ((HB.out.trans h2).trans (But.of p (new_on' w2 (.cells #[.int .i64 y] 3))))
      have HS2:=hideR (h1.on (new_on' w2 (.cells #[.int .i64 y] 3)))
      have HSZ:Hid (w.heap.size<=w2.heap.size):=hideR (Nat.le_trans HB.out.size h2.size)
      clear h1 h2 HU HO HS HB
      obtain ⟨i0,hi,hz0,hz1,hz2⟩:=info_parts intInfo
      go_wp2_with (first|(at_builtin;refine wpList_appS rfl _ _ 37 rfl w.heap.size 3 i0 _ 1 8 Tryd.underlying37 hi hz0 hz1 hz2 rfl (by decide) _ _ _ rfl HO2.out (some ⟨w2.heap.size,0,none⟩) 1 1 [.int .i64 y] rfl ?c6 ?c0 ?c1 ?c2 ?c3 ?c4 ?c5 ?_))
      case c6=>intro h;cases h
      case c0=>rfl
      case c1=>exact fun ad h=>by injection h with h;subst h;exact HN.out
      case c2=>exact fun u hu=>by rw [List.mem_singleton.1 hu];rfl
      case c3=>unfold maxLen;omega
      case c4=>omega
      case c5=>have:=HSZ.out;simp;omega
      intro v9 w9 hown9 hg9 _
      have ho9:∀q',(Value.slice oT q cT).ownBlock=some q'->w.heap.size<=q':=fun q' hq'=>(HO2.out.lt q' hq').1
      have HS9:=hideR (HS2.out.grown hg9 (fun q' hq'=>Nat.lt_of_lt_of_le hpw (ho9 q' hq')))
      have HB9:=hideR (But.grown (p:=p) HB2.out hg9 ho9)
      have HO9:Hid (w9.ownsRow w.heap.size 3 1 v9 (q+1) ((l++[y]).map fun z=>Value.int .i64 z)):=hideR (by rw [List.map_append];exact hown9)
      have hsl:=own_slice hown9
      clear hown9 hg9 ho9 HO2 HN HB2 HS2
      obtain ⟨oN,cN,rfl⟩:=hsl
      go_wp2
      go_roundw
      case rel=>exact ⟨q+1,by omega,by go_num,hideR (.inl ⟨l++[y],j2,by simp [hl],⟨_,_,rfl⟩,HZ.out,HS9.out,HO9.out⟩),HB9⟩
      case measure=>simp [RowKit.intOf];omega
    ·obtain rfl:q=m:=by omega
     have HZ:Hid (R=.ok (l,jq,m0)):=hideR (by rw [HP.out,Nat.sub_self,pre_end];rfl)
     have HV:Hid (vInts w.heap.size l (.slice oT q cT) wr):=hideR (ints_own (l:=l) (by rw [hl];exact HO.out) (by omega))
     clear HP HO
     go_wp2
     go_ret
     rw [HZ.out]
     exact ⟨_,rfl,HV.out,HS.out,HB.out⟩
   ·have c4:=hS.cell 4 _ rfl
    have HS:=hideR hS
    have HZ:=hideR hRy
    have HY:=hideR hy
    have q1:(y == 0)=false:=by simp [hy]
    clear hS hRy HLL hy
    by_cases hgo:q<m
    ·go_wp2
     go_ret
     rw [HZ.out]
     exact ⟨HY.out,_,i',n',rfl,⟨_,_,_,rfl⟩,HS.out,HB.out⟩
    ·go_wp2
     go_ret
     rw [HZ.out]
     exact ⟨HY.out,_,i',n',rfl,⟨_,_,_,rfl⟩,HS.out,HB.out⟩
end Go.Proofs.YthfapccopngfhaaDoor

