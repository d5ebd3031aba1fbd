/- Texts that the claim needs. -/
import Derived.Test.YtiailkiepndliaaGreatDoorQDWi18
import Derived.Test.YtiailkiepndliaaGreatDoorQDWi1
import Derived.Deep.RegionWith
import Derived.Test.YtiailkiepndliaaGreatDoorQDWi2
import Derived.Deep.Cut
namespace Go.Proofs.YtiailkiepndliaaGreatDoor
open Go.RowKit Rep
set_option linter.unusedVariables false
namespace Rep
def sam1 {α:Type} (f:α->α->Bool) (x y:Ins α):Bool:=decide (x.op=y.op) && (decide (x.a=y.a) && (decide (x.b=y.b) && (decide (x.n=y.n) && (decide (x.labels=y.labels) && (f x.body y.body && f x.els y.els)))))
def samL {α:Type} (f:α->α->Bool):List (Ins α)->List (Ins α)->Bool
 | [],[]=>true
 | x :: r,y :: s=>sam1 f x y && samL f r s
 | _,_=>false
def samI:(d:Nat)->IL d->IL d->Bool
 | 0,_,_=>true
 | d+1,l,k=>samL (samI d) l k
theorem samL_len {α:Type} {f:α->α->Bool}:∀(l k:List (Ins α)),l.length≠k.length->samL f l k=false
 | [],[],h=>absurd rfl h
 | [],_ :: _,_=>rfl
 | _ :: _,[],_=>rfl
 | x :: r,y :: s,h=>by
  show (sam1 f x y && samL f r s)=false
  rw [samL_len r s (by simpa using h),Bool.and_false]
theorem samL_on {α:Type} {f:α->α->Bool} {a b:List (Ins α)} {j:Nat} {x y:Ins α} {R:Bool} (hx:a[j]?=some x) (hy:b[j]?=some y) (h:R=samL f (a.drop j) (b.drop j)):R=(sam1 f x y && samL f (a.drop (j+1)) (b.drop (j+1))):=by
 have hl:j<a.length:=(List.getElem?_eq_some_iff.1 hx).1
 have he:a[j]=x:=(List.getElem?_eq_some_iff.1 hx).2
 have hl2:j<b.length:=(List.getElem?_eq_some_iff.1 hy).1
 have he2:b[j]=y:=(List.getElem?_eq_some_iff.1 hy).2
 rw [h,List.drop_eq_getElem_cons hl,he,List.drop_eq_getElem_cons hl2,he2];rfl
structure Sev (b:Nat) (v0 v1 v2 v3 v4 v5 v6:Value) (u:World):Prop where
 c0:u.cell? ⟨b,0,none⟩=some v0
 c1:u.cell? ⟨b,1,none⟩=some v1
 c2:u.cell? ⟨b,2,none⟩=some v2
 c3:u.cell? ⟨b,3,none⟩=some v3
 c4:u.cell? ⟨b,4,none⟩=some v4
 c5:u.cell? ⟨b,5,none⟩=some v5
 c6:u.cell? ⟨b,6,none⟩=some v6
theorem Sev.on {u u':World} (hb:Below u.heap.size u u') {b:Nat} {v0 v1 v2 v3 v4 v5 v6:Value} (h:Sev b v0 v1 v2 v3 v4 v5 v6 u):Sev b v0 v1 v2 v3 v4 v5 v6 u' :=
 ⟨cell_on hb h.c0,cell_on hb h.c1,cell_on hb h.c2,cell_on hb h.c3,cell_on hb h.c4,cell_on hb h.c5,cell_on hb h.c6⟩
theorem Sev.new (w:World) (t:TypeId) (b:Nat) (v0 v1 v2 v3 v4 v5 v6:Value) (hb:b=w.heap.size):Sev b v0 v1 v2 v3 v4 v5 v6 (w.alloc (.cells #[v0,v1,v2,v3,v4,v5,v6] t)):=by
 refine ⟨?_,?_,?_,?_,?_,?_,?_⟩<;>(rw [World.cell?_alloc_at _ t _ _ hb];rfl)
end Rep
def SameSays (d:Nat):Prop:=∀(va vb:Value) (a b:IL d) (w:World),At w d va a->At w d vb b ->
  Calls Tryz.prog 9 #[va,vb] w fun e w'=>e=.returned (.bool (samI d a b))/\Below w.heap.size w w'
theorem refInstrsNe (oa ob:Option Addr) (n k ca cb:Nat) (w:World) (hn:n<=9223372036854775807) (hk:k<=9223372036854775807) (hne:n≠k) :
  Calls Tryz.prog 9 #[.slice oa n ca,.slice ob k cb] w fun e w'=>e=.returned (.bool false)/\w'=w:=by
 have hne':((n:Int) != (k:Int))=true:=by rw [bne_iff_ne];omega
 go_enter Tryz.func9,Tryz.ntmps9
 go_wp2
 go_ret
 exact ⟨rfl,rfl⟩
set_option maxHeartbeats 1000000 in
theorem refInstrs0 (oa ob:Option Addr) (ca cb:Nat) (w:World) :
  Calls Tryz.prog 9 #[.slice oa 0 ca,.slice ob 0 cb] w fun e w'=>e=.returned (.bool true)/\w'=w:=by
 go_enter Tryz.func9,Tryz.ntmps9
 go_wp2_with fail
 go_loopw [5] (fun i wr=>i=.int .i64 0/\wr=w) (fun _ _=>0)
 case atStart=>exact ⟨rfl,rfl⟩
 case round =>
  obtain ⟨rfl,rfl⟩:=hrel
  go_wp2
  go_ret
  exact ⟨rfl,rfl⟩
set_option maxRecDepth 100000 in
set_option maxHeartbeats 4000000 in
theorem refInstrsS (d:Nat) (IH:SameSays d) (va vb:Value) (a b:List (Ins (IL d))) (w:World) (hA:Row 7 (InsAt w (At w d)) va a) (hB:Row 7 (InsAt w (At w d)) vb b) :
  Calls Tryz.prog 9 #[va,vb] w fun e w'=>e=.returned (.bool (samL (samI d) a b))/\Below w.heap.size w w':=by
 have la:=hA.1
 have lb:=hB.1
 obtain ⟨oa,ca,rfl⟩:=Row.len hA
 obtain ⟨ob,cb,rfl⟩:=Row.len hB
 by_cases hne:a.length=b.length
 rotate_left
 ·rw [samL_len _ _ hne]
  exact (refInstrsNe oa ob _ _ ca cb w la lb hne).mono fun e w' ⟨h1,h2⟩=>⟨h1,by rw [h2];exact Below.refl _ _⟩
 have HA:=hideR hA
 have HB:=hideR hB
 obtain ⟨R,hR⟩:∃R,R=samL (samI d) a b:=⟨_,rfl⟩
 rw [<- hR]
 have HR:Hid (R=samL (samI d) (a.drop 0) (b.drop 0)):=hR
 clear hA hB hR
 generalize hn:a.length=n at *
 generalize hm:b.length=k at *
 subst hne
 clear lb
 go_enter Tryz.func9,Tryz.ntmps9
 go_wp2_with fail
 go_loopw [5] (fun i wr=>∃j:Nat,j<=n/\i=.int .i64 j/\Hid (R=samL (samI d) (a.drop j) (b.drop j))/\Hid (Below w.heap.size w wr)) (fun i _=>n-(RowKit.intOf i).toNat)
 case atStart=>exact ⟨0,by omega,rfl,HR,hideR (Below.refl _ _)⟩
 case round =>
  obtain ⟨j,hj,rfl,HK,HP⟩:=hrel
  by_cases hgo:j<n
  ·obtain ⟨b1,off1,cap1,hv1,hx1⟩:=Row.some HA.out (by omega)
   injection hv1 with ho1 e11 e12
   subst ho1
   obtain ⟨b2,off2,cap2,hv2,hx2⟩:=Row.some HB.out (by omega)
   injection hv2 with ho2 e21 e22
   subst ho2
   obtain ⟨x,hxk⟩:∃x,a[j]?=some x:=⟨_,List.getElem?_eq_getElem (by omega)⟩
   obtain ⟨y,hyk⟩:∃y,b[j]?=some y:=⟨_,List.getElem?_eq_getElem (by omega)⟩
   have HX:=hideR ((hx1 j x hxk).on HP.out (At.on HP.out d))
   have HY:=hideR ((hx2 j y hyk).on HP.out (At.on HP.out d))
   have HN:=hideR (samL_on hxk hyk HK.out)
   clear hx1 hx2 hxk hyk HK e11 e12 e21 e22
   obtain ⟨g0,g1,g2,g3,⟨lx,g4,ax4⟩,⟨bx,g5,ax5⟩,⟨ex,g6,ax6⟩⟩:=HX.out
   obtain ⟨h0,h1,h2,h3,⟨ly,h4,ay4⟩,⟨by_,h5,ay5⟩,⟨ey,h6,ay6⟩⟩:=HY.out
   obtain ⟨lxo,lxc,rfl⟩:=Row.len ax4
   obtain ⟨lyo,lyc,rfl⟩:=Row.len ay4
   obtain ⟨bxo,bxc,rfl⟩:=At.len d bx _ ax5
   obtain ⟨exo,exc,rfl⟩:=At.len d ex _ ax6
   obtain ⟨byo,byc,rfl⟩:=At.len d by_ _ ay5
   obtain ⟨eyo,eyc,rfl⟩:=At.len d ey _ ay6
   have AX4:=hideR ax4
   have AX5:=hideR ax5
   have AX6:=hideR ax6
   have AY4:=hideR ay4
   have AY5:=hideR ay5
   have AY6:=hideR ay6
   clear ax4 ax5 ax6 ay4 ay5 ay6 HX HY
   have z1:b1<wr.heap.size:=World.block_lt_of_cell? _ _ g0
   have z2:b2<wr.heap.size:=World.block_lt_of_cell? _ _ h0
   go_upto_region 6 with fail
   go_cut [6,7] from 19 to 26 (fun s6 s7 wx=>∃p q:Nat,s6=.pointer (some ⟨p,0,none⟩)/\s7=.pointer (some ⟨q,0,none⟩)/\Hid (Sev p (.int .i64 x.op) (.int .i64 x.a) (.int .i64 x.b) (.int .i64 x.n) (.slice lxo x.labels.length lxc) (.slice bxo (size d x.body) bxc) (.slice exo (size d x.els) exc) wx)/\Hid (Sev q (.int .i64 y.op) (.int .i64 y.a) (.int .i64 y.b) (.int .i64 y.n) (.slice lyo y.labels.length lyc) (.slice byo (size d y.body) byc) (.slice eyo (size d y.els) eyc) wx)/\Hid (Below wr.heap.size wr wx))
   case first =>
    go_region
    ·go_wp2_with fail
     go_meet
     exact ⟨wr.heap.size,wr.heap.size+1,rfl,rfl,hideR (Sev.on (drew_on _) (Sev.on (new_on' _ _) (Sev.new wr _ _ _ _ _ _ _ _ _ rfl))),hideR (Sev.on (drew_on _) (Sev.new _ _ _ _ _ _ _ _ _ _ (by simp))),hideR (below_go' (below_go' (new_on' _ _) (new_on' _ _)) (drew_on _))⟩
    ·go_wp2_with fail
     go_meet
     exact ⟨wr.heap.size+1,wr.heap.size,rfl,rfl,hideR (Sev.on (drew_on _) (Sev.new _ _ _ _ _ _ _ _ _ _ (by simp))),hideR (Sev.on (drew_on _) (Sev.on (new_on' _ _) (Sev.new wr _ _ _ _ _ _ _ _ _ rfl))),hideR (below_go' (below_go' (new_on' _ _) (new_on' _ _)) (drew_on _))⟩
   obtain ⟨p,q,rfl,rfl,SX,SY,HC⟩:=hcut
   clear g0 g1 g2 g3 g4 g5 g6 h0 h1 h2 h3 h4 h5 h6 z1 z2
   have HP:=hideR (below_go' HP.out HC.out)
   have AX4:=hideR (AX4.out.on HC.out)
   have AY4:=hideR (AY4.out.on HC.out)
   have AX5:=hideR (At.on HC.out _ _ _ AX5.out)
   have AY5:=hideR (At.on HC.out _ _ _ AY5.out)
   have AX6:=hideR (At.on HC.out _ _ _ AX6.out)
   have AY6:=hideR (At.on HC.out _ _ _ AY6.out)
   clear HC
   obtain ⟨g0,g1,g2,g3,g4,g5,g6⟩:=SX.out
   obtain ⟨h0,h1,h2,h3,h4,h5,h6⟩:=SY.out
   have HN2:Hid (R=(sam1 (samI d) x y && samL (samI d) (a.drop (j+1)) (b.drop (j+1)))):=HN
   unfold sam1 at HN2
   clear HN
   by_cases eop:x.op=y.op
   rotate_left
   ·have top:(x.op != y.op)=true:=by rw [bne_iff_ne];exact eop
    obtain rfl:R=false:=by rw [HN2.out,decide_eq_false eop];rfl
    clear HN2
    go_wp2
    go_ret
    exact ⟨rfl,HP.out⟩
   have top:(x.op != y.op)=false:=by rw [bne_eq_false_iff_eq];exact eop
   rw [decide_eq_true eop,Bool.true_and] at HN2
   by_cases ea:x.a=y.a
   rotate_left
   ·have ta:(x.a != y.a)=true:=by rw [bne_iff_ne];exact ea
    obtain rfl:R=false:=by rw [HN2.out,decide_eq_false ea];rfl
    clear HN2
    go_wp2
    go_ret
    exact ⟨rfl,HP.out⟩
   have ta:(x.a != y.a)=false:=by rw [bne_eq_false_iff_eq];exact ea
   rw [decide_eq_true ea,Bool.true_and] at HN2
   by_cases eb:x.b=y.b
   rotate_left
   ·have tb:(x.b != y.b)=true:=by rw [bne_iff_ne];exact eb
    obtain rfl:R=false:=by rw [HN2.out,decide_eq_false eb];rfl
    clear HN2
    go_wp2
    go_ret
    exact ⟨rfl,HP.out⟩
   have tb:(x.b != y.b)=false:=by rw [bne_eq_false_iff_eq];exact eb
   rw [decide_eq_true eb,Bool.true_and] at HN2
   by_cases en:x.n=y.n
   rotate_left
   ·have tn:(x.n != y.n)=true:=by rw [bne_iff_ne];exact en
    obtain rfl:R=false:=by rw [HN2.out,decide_eq_false en];rfl
    clear HN2
    go_wp2
    go_ret
    exact ⟨rfl,HP.out⟩
   have tn:(x.n != y.n)=false:=by rw [bne_eq_false_iff_eq];exact en
   rw [decide_eq_true en,Bool.true_and] at HN2
   go_wp2_with fail
   refine (refKeep _ _ x.labels y.labels _ AX4.out AY4.out).mono ?_
   rintro e u1 ⟨rfl,nd,hnd⟩
   have hb:Below wc.heap.size wc u1:=by rw [hnd];exact below_drewN' _ _
   clear hnd
   have HP:=hideR (below_go' HP.out hb)
   have SX:=hideR (SX.out.on hb)
   have SY:=hideR (SY.out.on hb)
   have AX5:=hideR (At.on hb _ _ _ AX5.out)
   have AY5:=hideR (At.on hb _ _ _ AY5.out)
   have AX6:=hideR (At.on hb _ _ _ AX6.out)
   have AY6:=hideR (At.on hb _ _ _ AY6.out)
   clear hb g0 g1 g2 g3 g4 g5 g6 h0 h1 h2 h3 h4 h5 h6 AX4 AY4
   generalize decide (x.labels=y.labels)=tl at *
   cases tl with
   | false =>
    obtain rfl:R=false:=HN2.out
    clear HN2
    go_wp2
    go_ret
    exact ⟨rfl,HP.out⟩
   | true =>
   obtain ⟨g0,g1,g2,g3,g4,g5,g6⟩:=SX.out
   obtain ⟨h0,h1,h2,h3,h4,h5,h6⟩:=SY.out
   go_wp2_with fail
   refine (IH _ _ x.body y.body _ AX5.out AY5.out).mono ?_
   rintro e u2 ⟨rfl,hb⟩
   have HP:=hideR (below_go' HP.out hb)
   have SX:=hideR (SX.out.on hb)
   have SY:=hideR (SY.out.on hb)
   have AX6:=hideR (At.on hb _ _ _ AX6.out)
   have AY6:=hideR (At.on hb _ _ _ AY6.out)
   clear hb g0 g1 g2 g3 g4 g5 g6 h0 h1 h2 h3 h4 h5 h6 AX5 AY5
   generalize samI d x.body y.body=tb at *
   cases tb with
   | false =>
    obtain rfl:R=false:=HN2.out
    clear HN2
    go_wp2
    go_ret
    exact ⟨rfl,HP.out⟩
   | true =>
   obtain ⟨g0,g1,g2,g3,g4,g5,g6⟩:=SX.out
   obtain ⟨h0,h1,h2,h3,h4,h5,h6⟩:=SY.out
   go_wp2_with fail
   refine (IH _ _ x.els y.els _ AX6.out AY6.out).mono ?_
   rintro e u3 ⟨rfl,hb⟩
   have HP:=hideR (below_go' HP.out hb)
   clear hb g0 g1 g2 g3 g4 g5 g6 h0 h1 h2 h3 h4 h5 h6 AX6 AY6 SX SY
   generalize samI d x.els y.els=te at *
   cases te with
   | false =>
    obtain rfl:R=false:=HN2.out
    clear HN2
    go_wp2
    go_ret
    exact ⟨rfl,HP.out⟩
   | true =>
   have HN3:Hid (R=samL (samI d) (a.drop (j+1)) (b.drop (j+1))):=hideR (by rw [HN2.out];simp only [Bool.true_and])
   clear HN2
   go_wp2
   go_roundw
   case rel=>exact ⟨j+1,by omega,by go_num,HN3,HP⟩
   case measure=>simp [RowKit.intOf];omega
  ·obtain rfl:R=true:=by rw [HK.out,List.drop_of_length_le (by omega),List.drop_of_length_le (by omega)];rfl
   clear HK
   go_wp2
   go_ret
   exact ⟨rfl,HP.out⟩
theorem refInstrs:∀(d:Nat),SameSays d
 | 0=>fun va vb a b w ⟨oa,ca,hva⟩ ⟨ob,cb,hvb⟩=>by
  subst hva
  subst hvb
  exact (refInstrs0 oa ob ca cb w).mono fun e w' ⟨h1,h2⟩=>⟨h1,by rw [h2];exact Below.refl _ _⟩
 | d+1=>fun va vb a b w hA hB=>refInstrsS d (refInstrs d) va vb a b w hA hB
end Go.Proofs.YtiailkiepndliaaGreatDoor

namespace Go.Proofs.YtiailkiepndliaaGreatDoor
open Go.RowKit Rep
set_option linter.unusedVariables false
theorem hideK {p:Prop} (h:p):Hid p:=h
namespace Rep
def noJ:(d:Nat)->IL d
 | 0=>()
 | d+1=>([]:List (Ins (IL d)))
theorem at_noJ (w:World) (o:Option Addr) (cap:Nat):∀d,At w d (.slice o 0 cap) (noJ d)
 | 0=>⟨o,cap,rfl⟩
 | _+1=>⟨by simp [noJ],.inl ⟨rfl,o,cap,rfl⟩⟩
def LbL {α:Type} (p:α->Prop) (l:List (Ins α)):Prop:=l.length<=1500/\∀x ∈ l,x.labels.length<=15010/\p x.body/\p x.els
def Lb:(d:Nat)->IL d->Prop
 | 0,_=>True
 | d+1,l=>LbL (Lb d) l
theorem lb_noJ:∀d,Lb d (noJ d)
 | 0=>trivial
 | _+1=>⟨by simp [noJ],fun x hx=>by cases hx⟩
def Fit (w:World) (k bk o:Nat):Prop:=∃z:Ins (IL k),InsAt w (At w k) bk o z/\z.labels.length<=15010/\Lb k z.body/\Lb k z.els
def FitL (w:World) (k:Nat) (v:Value):Prop:=∃l:IL k,At w k v l/\Lb k l
theorem fitL_no (w:World) (k:Nat) (o:Option Addr) (cap:Nat):FitL w k (.slice o 0 cap):=⟨noJ k,at_noJ w o cap k,lb_noJ k⟩
theorem fitL_of (w:World) (k b off n cap:Nat) (hn:n<=1500) (h:∀t,t<n->Fit w k b (off+t*7)):FitL w (k+1) (.slice (some ⟨b,off,none⟩) n cap):=by
 obtain ⟨l,hl,hf⟩:=choose_list n (fun t (z:Ins (IL k))=>InsAt w (At w k) b (off+t*7) z/\z.labels.length<=15010/\Lb k z.body/\Lb k z.els) h
 have hL:LbL (Lb k) l:=⟨by omega,fun x hx=>by
  obtain ⟨i,hi,rfl⟩:=List.getElem_of_mem hx
  exact (hf i _ (List.getElem?_eq_getElem hi)).2⟩
 exact ⟨l,⟨by omega,.inr ⟨b,off,cap,by rw [hl],fun i x hi=>(hf i x hi).1⟩⟩,hL⟩
theorem fit_mk {w:World} {k b o:Nat} {op a bb n:Int} {v4 v5 v6:Value} {ls:List Int} (c0:w.cell? ⟨b,o,none⟩=some (.int .i64 op)) (c1:w.cell? ⟨b,o+1,none⟩=some (.int .i64 a)) (c2:w.cell? ⟨b,o+2,none⟩=some (.int .i64 bb)) (c3:w.cell? ⟨b,o+3,none⟩=some (.int .i64 n))
  (c4:w.cell? ⟨b,o+4,none⟩=some v4) (i4:Ints w v4 ls) (hl:ls.length<=15010) (c5:w.cell? ⟨b,o+5,none⟩=some v5) (c6:w.cell? ⟨b,o+6,none⟩=some v6) (h5:FitL w k v5) (h6:FitL w k v6):Fit w k b o:=by
 obtain ⟨l5,a5,b5⟩:=h5
 obtain ⟨l6,a6,b6⟩:=h6
 exact ⟨⟨op,a,bb,n,ls,l5,l6⟩,⟨c0,c1,c2,c3,⟨v4,c4,i4⟩,⟨v5,c5,a5⟩,⟨v6,c6,a6⟩⟩,hl,b5,b6⟩
theorem At.size_none {w:World}:∀(d:Nat) (v:Value) (l:IL d),At w d v l->∃o n cap,v=.slice o n cap/\n=size d l:=fun d v l h=>by
 obtain ⟨o,cap,rfl⟩:=At.len d v l h
 exact ⟨o,_,cap,rfl,rfl⟩
def wStep {α:Type} (sz:α->Nat) (f:α->Int->Int) (x:Ins α) (c:Int):Int :=
 if 1500<c+(1+(x.labels.length:Int) / 10) then -1
 else
  let r1:=if sz x.body=0 then c+(1+(x.labels.length:Int) / 10) else f x.body (c+(1+(x.labels.length:Int) / 10))
  if r1<0 then r1 else if sz x.els=0 then r1 else f x.els r1
def wghL {α:Type} (sz:α->Nat) (f:α->Int->Int):List (Ins α)->Int->Int
 | [],c=>c
 | x :: r,c=>if c<0 then c else wghL sz f r (wStep sz f x c)
def wgh:(d:Nat)->IL d->Nat->Int->Int
 | 0,_,deep,n=>if n<0\/80<deep then -1 else n
 | d+1,l,deep,n=>if n<0\/80<deep then -1 else wghL (size d) (fun y c=>wgh d y (deep+1) c) l n
theorem wghL_neg {α:Type} {sz:α->Nat} {f:α->Int->Int} (l:List (Ins α)) {c:Int} (h:c<0):wghL sz f l c=c:=by
 cases l with
 | nil=>rfl
 | cons x r=>show (if c<0 then c else _)=c;rw [if_pos h]
def Good {α:Type} (f:α->Int->Int):Prop:=∀y c,-1<=c->-1<=f y c/\(f y c<=c\/f y c<=1500)/\(0<=f y c->c<=f y c)
theorem wStep_good {α:Type} {sz:α->Nat} {f:α->Int->Int} (hf:Good f) (x:Ins α) (c:Int) (h:0<=c):-1<=wStep sz f x c/\wStep sz f x c<=1500/\(0<=wStep sz f x c->c+1<=wStep sz f x c):=by
 unfold wStep
 obtain ⟨c2,hc2⟩:∃c2,c2=c+(1+(x.labels.length:Int) / 10):=⟨_,rfl⟩
 rw [<- hc2]
 have h2:c+1<=c2:=by omega
 by_cases h3:1500<c2
 ·simp [h3]
 ·simp only [h3,if_false]
  obtain ⟨r1,hr1⟩:∃r1,r1=if sz x.body=0 then c2 else f x.body c2:=⟨_,rfl⟩
  rw [<- hr1]
  have g1:-1<=r1/\r1<=1500/\(0<=r1->c2<=r1):=by
   rw [hr1]
   split
   ·omega
   ·have:=hf x.body c2 (by omega);omega
  clear hr1
  by_cases h4:r1<0
  ·simp only [h4,if_true];omega
  ·simp only [h4,if_false]
   split
   ·omega
   ·have:=hf x.els r1 (by omega);omega
theorem wghL_good {α:Type} {sz:α->Nat} {f:α->Int->Int} (hf:Good f):∀(l:List (Ins α)) (c:Int),-1<=c->-1<=wghL sz f l c/\(wghL sz f l c<=c\/wghL sz f l c<=1500)/\(0<=wghL sz f l c->c<=wghL sz f l c)
 | [],c,h=>by show -1<=c/\(c<=c\/c<=1500)/\(0<=c->c<=c);omega
 | x :: r,c,h=>by
  by_cases hc:c<0
  ·rw [wghL_neg _ hc];omega
  ·show -1<=(if c<0 then c else wghL sz f r (wStep sz f x c))/\((if c<0 then c else wghL sz f r (wStep sz f x c))<=c\/(if c<0 then c else wghL sz f r (wStep sz f x c))<=1500)/\(0<=(if c<0 then c else wghL sz f r (wStep sz f x c))->c<=(if c<0 then c else wghL sz f r (wStep sz f x c)))
   rw [if_neg hc]
   have h1:=wStep_good (sz:=sz) hf x c (by omega)
   have h2:=wghL_good (sz:=sz) hf r (wStep sz f x c) h1.1
   generalize wStep sz f x c=s at *
   by_cases hs:s<0
   ·rw [wghL_neg _ hs] at *;omega
   ·omega
theorem wgh_good:∀(d deep:Nat),Good (fun (y:IL d) c=>wgh d y deep c)
 | 0,deep=>fun y c h=>by
  show -1<=(if c<0\/80<deep then -1 else c)/\((if c<0\/80<deep then -1 else c)<=c\/(if c<0\/80<deep then -1 else c)<=1500)/\(0<=(if c<0\/80<deep then -1 else c)->c<=(if c<0\/80<deep then -1 else c))
  split<;>omega
 | d+1,deep=>fun y c h=>by
  have h2:=wghL_good (sz:=size d) (wgh_good d (deep+1)) y c h
  show -1<=(if c<0\/80<deep then -1 else wghL (size d) (fun y c=>wgh d y (deep+1) c) y c)/\((if c<0\/80<deep then -1 else wghL (size d) (fun y c=>wgh d y (deep+1) c) y c)<=c\/(if c<0\/80<deep then -1 else wghL (size d) (fun y c=>wgh d y (deep+1) c) y c)<=1500)/\(0<=(if c<0\/80<deep then -1 else wghL (size d) (fun y c=>wgh d y (deep+1) c) y c)->c<=(if c<0\/80<deep then -1 else wghL (size d) (fun y c=>wgh d y (deep+1) c) y c))
  split
  ·omega
  ·exact h2
theorem wghL_all {α:Type} {sz:α->Nat} {f:α->Int->Int} (hf:Good f):∀(l:List (Ins α)) (c:Int),-1<=c->0<=wghL sz f l c ->
  (l = []\/(l.length:Int)+c<=1500)/\∀x ∈ l,x.labels.length<=15010/\(sz x.body=0\/∃c',0<=c'/\0<=f x.body c')/\(sz x.els=0\/∃c',0<=c'/\0<=f x.els c')
 | [],c,_,_=>⟨.inl rfl,fun x hx=>by cases hx⟩
 | x :: r,c,h0,h=>by
  by_cases hc:c<0
  ·rw [wghL_neg _ hc] at h;omega
  have e:wghL sz f (x :: r) c=wghL sz f r (wStep sz f x c):=by show (if c<0 then c else _)=_;rw [if_neg hc]
  rw [e] at h
  have h1:=wStep_good (sz:=sz) hf x c (by omega)
  have hs:0<=wStep sz f x c:=by
   by_cases hs:wStep sz f x c<0
   ·rw [wghL_neg _ hs] at h;exact h
   ·omega
  have h2:=wghL_all hf r (wStep sz f x c) h1.1 h
  refine ⟨.inr ?_,fun y hy=>?_⟩
  ·rcases h2.1 with rfl|h3
   ·simp only [List.length_cons,List.length_nil];omega
   ·simp only [List.length_cons];omega
  ·rcases List.mem_cons.1 hy with rfl|hy
   ·unfold wStep at hs
    obtain ⟨c2,hc2⟩:∃c2,c2=c+(1+(y.labels.length:Int) / 10):=⟨_,rfl⟩
    rw [<- hc2] at hs
    by_cases h3:1500<c2
    ·simp [h3] at hs
    ·simp only [h3,if_false] at hs
     refine ⟨by omega,?_,?_⟩
     ·by_cases hb:sz y.body=0
      ·exact .inl hb
      ·refine .inr ⟨c2,by omega,?_⟩
       simp only [hb,if_false] at hs
       by_cases h4:f y.body c2<0
       ·simp only [h4,if_true] at hs;exact hs
       ·omega
     ·by_cases hb:sz y.els=0
      ·exact .inl hb
      ·obtain ⟨r1,hr1⟩:∃r1,r1=if sz y.body=0 then c2 else f y.body c2:=⟨_,rfl⟩
       rw [<- hr1] at hs
       by_cases h4:r1<0
       ·simp only [h4,if_true] at hs;omega
       ·simp only [h4,hb,if_false] at hs
        exact .inr ⟨r1,by omega,hs⟩
   ·exact h2.2 y hy
theorem wgh_fit {w:World}:∀(d:Nat) (v:Value) (l:IL d) (deep:Nat) (n:Int),At w d v l->-1<=n->0<=wgh d l deep n->FitL w (81-deep) v
 | 0,v,l,deep,n,⟨o,cap,hv⟩,_,_=>by subst hv;exact fitL_no w _ o cap
 | d+1,v,l,deep,n,hAt,hn,h=>by
  by_cases hneg:n<0\/80<deep
  ·have:wgh (d+1) l deep n=-1:=by show (if n<0\/80<deep then -1 else _)=_;rw [if_pos hneg]
   omega
  have e:wgh (d+1) l deep n=wghL (size d) (fun y c=>wgh d y (deep+1) c) l n:=by show (if n<0\/80<deep then -1 else _)=_;rw [if_neg hneg]
  rw [e] at h
  obtain ⟨h1,h2⟩:=wghL_all (wgh_good d (deep+1)) l n hn h
  have hR:Row 7 (InsAt w (At w d)) v l:=hAt
  rcases hR with ⟨hl,⟨hnil,o,cap,rfl⟩|⟨b,off,cap,rfl,hx⟩⟩
  ·exact fitL_no w _ o cap
  ·rw [show 81-deep=(80-deep)+1 by omega]
   refine fitL_of w (80-deep) b off _ cap ?_ fun t ht=>?_
   ·rcases h1 with rfl|h1
    ·show 0<=1500;omega
    ·have:(List.length l:Int)+n<=1500:=h1
     omega
   ·obtain ⟨x,hxt⟩:∃x,getElem? (coll:=List (Ins (IL d))) l t=some x:=⟨_,List.getElem?_eq_getElem ht⟩
    have hI:=hx t x hxt
    obtain ⟨g1,g2,g3⟩:=h2 x (List.mem_of_getElem? hxt)
    obtain ⟨v4,q4,i4⟩:=hI.labels
    obtain ⟨v5,q5,a5⟩:=hI.body
    obtain ⟨v6,q6,a6⟩:=hI.els
    have key:∀(v:Value) (y:IL d),At w d v y->(size d y=0\/∃c',0<=c'/\0<=wgh d y (deep+1) c')->FitL w (80-deep) v:=fun v y hA hy=>by
     rcases hy with hy|⟨c',k1,k2⟩
     ·obtain ⟨o,cap,rfl⟩:=At.len d v y hA
      rw [hy];exact fitL_no w _ o cap
     ·have:=wgh_fit d v y (deep+1) c' hA (by omega) k2
      rwa [show 81-(deep+1)=80-deep by omega] at this
    exact fit_mk hI.op hI.a hI.b hI.n q4 i4 g1 q5 q6 (key _ _ a5 g2) (key _ _ a6 g3)
theorem wghL_on {α:Type} {sz:α->Nat} {f:α->Int->Int} {l:List (Ins α)} {k:Nat} {c r:Int} {x:Ins α} (hx:l[k]?=some x) (hc:0<=c) (h:r=wghL sz f (l.drop k) c):r=wghL sz f (l.drop (k+1)) (wStep sz f x c):=by
 have hl:k<l.length:=(List.getElem?_eq_some_iff.1 hx).1
 have he:l[k]=x:=(List.getElem?_eq_some_iff.1 hx).2
 rw [h,List.drop_eq_getElem_cons hl,he]
 show (if c<0 then c else _)=_
 rw [if_neg (by omega)]
end Rep
def WeighSays (d:Nat):Prop:=∀(v:Value) (l:IL d) (deep:Nat) (n:Int) (w:World),At w d v l->deep<=81->-1<=n->n<=2305843009213693952 ->
  Calls Tryz.prog 10 #[v,.int .i64 deep,.int .i64 n] w fun e w'=>e=.returned (.int .i64 (wgh d l deep n))/\w'=w
theorem weighNeg (v:Value) (o:Option Addr) (m cap:Nat) (hv:v=.slice o m cap) (deep:Nat) (n:Int) (w:World) (hd:deep<=81) (h:n<0\/80<deep) (h1:-1<=n) :
  Calls Tryz.prog 10 #[v,.int .i64 deep,.int .i64 n] w fun e w'=>e=.returned (.int .i64 (-1))/\w'=w:=by
 subst hv
 by_cases hn:n<0
 ·go_enter Tryz.func10,Tryz.ntmps10
  go_wp2
  go_ret
  exact ⟨rfl,rfl⟩
 ·have hd:80<deep:=by omega
  go_enter Tryz.func10,Tryz.ntmps10
  go_wp2
  go_ret
  exact ⟨rfl,rfl⟩
set_option maxHeartbeats 1000000 in
theorem weigh0 (o:Option Addr) (cap deep:Nat) (n:Int) (w:World) (hd:deep<=80) (hn:0<=n) (hn2:n<=2305843009213693952) :
  Calls Tryz.prog 10 #[.slice o 0 cap,.int .i64 deep,.int .i64 n] w fun e w'=>e=.returned (.int .i64 n)/\w'=w:=by
 go_enter Tryz.func10,Tryz.ntmps10
 go_wp2_with fail
 go_loopw [2,7] (fun u i wr=>u=.int .i64 n/\i=.int .i64 0/\wr=w) (fun _ _ _=>0)
 case atStart=>exact ⟨rfl,rfl,rfl⟩
 case round =>
  obtain ⟨rfl,rfl,rfl⟩:=hrel
  go_wp2
  go_ret
  exact ⟨rfl,rfl⟩
set_option maxHeartbeats 2000000 in
theorem weighS (d:Nat) (IH:WeighSays d) (v:Value) (l:List (Ins (IL d))) (deep:Nat) (n:Int) (w:World) (hAt:Row 7 (InsAt w (At w d)) v l) (hd:deep<=81) (hn1:-1<=n) (hn2:n<=2305843009213693952) :
  Calls Tryz.prog 10 #[v,.int .i64 deep,.int .i64 n] w fun e w'=>e=.returned (.int .i64 (if n<0\/80<deep then -1 else wghL (size d) (fun y c=>wgh d y (deep+1) c) l n))/\w'=w:=by
 have hlen:=hAt.1
 by_cases hneg:n<0\/80<deep
 ·obtain ⟨o,cap,hv⟩:=hAt.len
  rw [if_pos hneg]
  exact weighNeg v o _ cap hv deep n w hd hneg hn1
 rw [if_neg hneg]
 by_cases hz:l.length=0
 ·obtain ⟨o,cap,rfl⟩:=hAt.len
  rw [hz]
  obtain rfl:l = []:=List.length_eq_zero_iff.1 hz
  exact weigh0 o cap deep n w (by omega) (by omega) hn2
 obtain ⟨b,off,cap,rfl,hx⟩:=hAt.some (by omega)
 have HX:=hideK hx
 clear hx hAt
 obtain ⟨R,hR⟩:∃R,R=wghL (size d) (fun y c=>wgh d y (deep+1) c) l n:=⟨_,rfl⟩
 rw [<- hR]
 have HR:Hid (R=wghL (size d) (fun y c=>wgh d y (deep+1) c) (l.drop 0) n):=hR
 clear hR
 have HG:=hideK (wgh_good d (deep+1))
 generalize hln:l.length=m at *
 have hd80:deep<=80:=by omega
 have hn0:0<=n:=by omega
 clear hneg hn1
 go_enter Tryz.func10,Tryz.ntmps10
 go_wp2_with fail
 go_loopw [2,7] (fun u i wr=>∃(j:Nat) (c:Int),j<=m/\i=.int .i64 j/\u=.int .i64 c/\-1<=c/\(c<=n\/c<=1500)/\Hid (R=wghL (size d) (fun y c=>wgh d y (deep+1) c) (l.drop j) c)/\wr=w) (fun _ i _=>m-(RowKit.intOf i).toNat)
 case atStart=>exact ⟨0,n,by omega,rfl,rfl,by omega,by omega,HR,rfl⟩
 case round =>
  obtain ⟨j,c,hj,rfl,rfl,hc1,hc2,HK,rfl⟩:=hrel
  by_cases hgo:j<m
  ·by_cases hc0:0<=c
   ·obtain ⟨x,hxk⟩:∃x,l[j]?=some x:=⟨_,List.getElem?_eq_getElem (by omega)⟩
    have hI:=HX.out j x hxk
    obtain ⟨v4,q4,i4⟩:=hI.labels
    obtain ⟨vb,q5,a5⟩:=hI.body
    obtain ⟨ve,q6,a6⟩:=hI.els
    have h4b:=i4.1
    obtain ⟨o4,n4,c4,rfl,hn4⟩:∃o4 n4 c4,v4=.slice o4 n4 c4/\n4=x.labels.length:=by
     obtain ⟨o4,c4,h⟩:=Row.len i4
     exact ⟨o4,_,c4,h,rfl⟩
    obtain ⟨ob,nb,cb,rfl,hnb⟩:=At.size_none _ _ _ a5
    obtain ⟨oe,ne,ce,rfl,hne⟩:=At.size_none _ _ _ a6
    have hbb:=At.bound _ _ _ a5
    have hbe:=At.bound _ _ _ a6
    rw [<- hn4] at h4b
    rw [<- hnb] at hbb
    rw [<- hne] at hbe
    have HN:=hideK (wghL_on hxk hc0 HK.out)
    have hG:=wStep_good (sz:=size d) HG.out x c hc0
    have HS:Hid (∃s,s=wStep (size d) (fun y c=>wgh d y (deep+1) c) x c):=hideK ⟨_,rfl⟩
    have IB:=hideK (fun (c:Int) (h1:-1<=c) (h2:c<=2305843009213693952)=>IH _ x.body (deep+1) c wr a5 (by omega) h1 h2)
    have IE:=hideK (fun (c:Int) (h1:-1<=c) (h2:c<=2305843009213693952)=>IH _ x.els (deep+1) c wr a6 (by omega) h1 h2)
    rw [show ((deep+1:Nat):Int)=(deep:Int)+1 by omega] at IB IE
    obtain ⟨s,hs⟩:=HS.out
    rw [<- hs] at hG HN
    unfold wStep at hs
    rw [<- hn4,<- hnb,<- hne] at hs
    obtain ⟨fb,hfb⟩:∃fb:Int->Int,∀c,wgh d x.body (deep+1) c=fb c:=⟨_,fun _=>rfl⟩
    obtain ⟨fe,hfe⟩:∃fe:Int->Int,∀c,wgh d x.els (deep+1) c=fe c:=⟨_,fun _=>rfl⟩
    have G1:∀c,-1<=c->-1<=fb c/\(fb c<=c\/fb c<=1500)/\(0<=fb c->c<=fb c):=fun c h=>by rw [<- hfb];exact HG.out x.body c h
    have G2:∀c,-1<=c->-1<=fe c/\(fe c<=c\/fe c<=1500)/\(0<=fe c->c<=fe c):=fun c h=>by rw [<- hfe];exact HG.out x.els c h
    simp only [hfb,hfe] at IB IE hs
    clear hfb hfe
    have HSS:=hideK hs
    clear hI hxk i4 a5 a6 hnb hne hn4 HK hs HS
    go_upto_region 7 with fail
    obtain ⟨c2,hc2'⟩:∃c2:Int,c2=c+(1+(n4:Int) / 10):=⟨_,rfl⟩
    have HC2:=hideK hc2'
    rw [<- hc2']
    have hb1:c+1<=c2:=by omega
    have hb3:c2<=4611686018427387904:=by omega
    clear hc2'
    rw [<- HC2.out] at HSS
    by_cases hmany:1500<c2
    ·have HF:R=-1:=by rw [HN.out,HSS.out,if_pos hmany,wghL_neg _ (by omega)]
     subst HF
     clear HN HSS
     go_wp2
     go_ret
     exact ⟨rfl,rfl⟩
    rw [if_neg hmany] at HSS
    by_cases hb0:nb=0
    ·obtain ⟨r1,hr1⟩:∃r1,r1=c2:=⟨_,rfl⟩
     have HSV:Hid (s=if r1<0 then r1 else if ne=0 then r1 else fe r1):=hideK (by rw [HSS.out,hr1];simp [hb0])
     rw [<- hr1]
     subst hb0
     have hm1:0<=r1/\r1<=1500:=by omega
     clear hr1 HSS hG
     have hr:¬ r1<0:=by omega
     ·by_cases he0:ne=0
      ·have HN2:Hid (R=wghL (size d) (fun y c=>wgh d y (deep+1) c) (l.drop (j+1)) r1):=hideK (by rw [HN.out,HSV.out];simp [hr,he0])
       subst he0
       go_wp2
       go_roundw
       case rel=>exact ⟨j+1,r1,by omega,by go_num,rfl,by omega,by omega,HN2,trivial⟩
       case measure=>simp [RowKit.intOf];omega
      ·have HN2:Hid (R=wghL (size d) (fun y c=>wgh d y (deep+1) c) (l.drop (j+1)) (fe r1)):=hideK (by rw [HN.out,HSV.out];simp [hr,he0])
       have g2:=G2 r1 (by omega)
       go_wp2_with fail
       refine (IE.out r1 (by omega) (by omega)).mono ?_
       rintro e u ⟨rfl,hu⟩
       obtain rfl:wr=u:=hu.symm
       generalize fe r1=r2 at *
       go_wp2
       go_roundw
       case rel=>exact ⟨j+1,r2,by omega,by go_num,rfl,by omega,by omega,HN2,trivial⟩
       case measure=>simp [RowKit.intOf];omega
    ·have HSV:Hid (s=if fb c2<0 then fb c2 else if ne=0 then fb c2 else fe (fb c2)):=hideK (by rw [HSS.out];simp [hb0])
     have g1:=G1 c2 (by omega)
     clear HSS hG
     go_upto_region 11 with (first|(go_at_call 10;refine (IB.out c2 (by omega) (by omega)).mono ?_;rintro e u ⟨rfl,hu⟩;obtain rfl:wr=u:=hu.symm))
     generalize fb c2=r1 at *
     by_cases hr:r1<0
     ·have HN2:Hid (R=wghL (size d) (fun y c=>wgh d y (deep+1) c) (l.drop (j+1)) r1):=hideK (by rw [HN.out,HSV.out];simp [hr])
      go_wp2
      go_roundw
      case rel=>exact ⟨j+1,r1,by omega,by go_num,rfl,by omega,by omega,HN2,trivial⟩
      case measure=>simp [RowKit.intOf];omega
     ·by_cases he0:ne=0
      ·have HN2:Hid (R=wghL (size d) (fun y c=>wgh d y (deep+1) c) (l.drop (j+1)) r1):=hideK (by rw [HN.out,HSV.out];simp [hr,he0])
       subst he0
       go_wp2
       go_roundw
       case rel=>exact ⟨j+1,r1,by omega,by go_num,rfl,by omega,by omega,HN2,trivial⟩
       case measure=>simp [RowKit.intOf];omega
      ·have HN2:Hid (R=wghL (size d) (fun y c=>wgh d y (deep+1) c) (l.drop (j+1)) (fe r1)):=hideK (by rw [HN.out,HSV.out];simp [hr,he0])
       have g2:=G2 r1 (by omega)
       go_wp2_with fail
       refine (IE.out r1 (by omega) (by omega)).mono ?_
       rintro e u ⟨rfl,hu⟩
       obtain rfl:wr=u:=hu.symm
       generalize fe r1=r2 at *
       go_wp2
       go_roundw
       case rel=>exact ⟨j+1,r2,by omega,by go_num,rfl,by omega,by omega,HN2,trivial⟩
       case measure=>simp [RowKit.intOf];omega
   ·have HF:R=c:=by rw [HK.out,wghL_neg _ (by omega)]
    subst HF
    clear HK
    go_wp2
    go_ret
    exact ⟨rfl,rfl⟩
  ·have HF:R=c:=by rw [HK.out,List.drop_of_length_le (by omega)];rfl
   subst HF
   clear HK
   go_wp2
   all_goals (go_ret;exact ⟨rfl,rfl⟩)
theorem weigh:∀(d:Nat),WeighSays d
 | 0=>fun v l deep n w ⟨o,cap,hv⟩ hd h1 h2=>by
  subst hv
  show Calls _ _ _ _ fun e w'=>e=.returned (.int .i64 (if n<0\/80<deep then -1 else n))/\w'=w
  by_cases hneg:n<0\/80<deep
  ·rw [if_pos hneg];exact weighNeg _ o _ cap rfl deep n w hd hneg h1
  ·rw [if_neg hneg];exact weigh0 o cap deep n w (by omega) (by omega) h2
 | d+1=>fun v l deep n w hAt hd h1 h2=>weighS d (weigh d) v l deep n w hAt hd h1 h2
end Go.Proofs.YtiailkiepndliaaGreatDoor

