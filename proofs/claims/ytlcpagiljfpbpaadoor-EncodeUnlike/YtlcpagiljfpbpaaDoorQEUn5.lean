/- Texts that the claim needs. -/
import Derived.Test.YtlcpagiljfpbpaaDoorQEUn0
import Derived.Test.YtlcpagiljfpbpaaDoorQEUn4
namespace Go.Proofs.YtlcpagiljfpbpaaDoor
open Go.RowKit Rep
set_option linter.unusedVariables false
namespace Rep
def sam1 {α:Type} (f:α->α->Bool) (x y:Ins α):Bool:=decide (x.op=y.op) && (decide (x.a=y.a) && (decide (x.b=y.b) && (decide (x.n=y.n) && (decide (x.labels=y.labels) && (f x.body y.body && f x.els y.els)))))
def samL {α:Type} (f:α->α->Bool):List (Ins α)->List (Ins α)->Bool
 | [],[]=>true
 | x :: r,y :: s=>sam1 f x y && samL f r s
 | _,_=>false
def samI:(d:Nat)->IL d->IL d->Bool
 | 0,_,_=>true
 | d+1,l,k=>samL (samI d) l k
theorem samL_len {α:Type} {f:α->α->Bool}:∀(l k:List (Ins α)),l.length≠k.length->samL f l k=false
 | [],[],h=>absurd rfl h
 | [],_ :: _,_=>rfl
 | _ :: _,[],_=>rfl
 | x :: r,y :: s,h=>by
  show (sam1 f x y && samL f r s)=false
  rw [samL_len r s (by simpa using h),Bool.and_false]
theorem samL_on {α:Type} {f:α->α->Bool} {a b:List (Ins α)} {j:Nat} {x y:Ins α} {R:Bool} (hx:a[j]?=some x) (hy:b[j]?=some y) (h:R=samL f (a.drop j) (b.drop j)):R=(sam1 f x y && samL f (a.drop (j+1)) (b.drop (j+1))):=by
 have hl:j<a.length:=(List.getElem?_eq_some_iff.1 hx).1
 have he:a[j]=x:=(List.getElem?_eq_some_iff.1 hx).2
 have hl2:j<b.length:=(List.getElem?_eq_some_iff.1 hy).1
 have he2:b[j]=y:=(List.getElem?_eq_some_iff.1 hy).2
 rw [h,List.drop_eq_getElem_cons hl,he,List.drop_eq_getElem_cons hl2,he2];rfl
structure Sev (b:Nat) (v0 v1 v2 v3 v4 v5 v6:Value) (u:World):Prop where
 c0:u.cell? ⟨b,0,none⟩=some v0
 c1:u.cell? ⟨b,1,none⟩=some v1
 c2:u.cell? ⟨b,2,none⟩=some v2
 c3:u.cell? ⟨b,3,none⟩=some v3
 c4:u.cell? ⟨b,4,none⟩=some v4
 c5:u.cell? ⟨b,5,none⟩=some v5
 c6:u.cell? ⟨b,6,none⟩=some v6
theorem Sev.on {u u':World} (hb:Below u.heap.size u u') {b:Nat} {v0 v1 v2 v3 v4 v5 v6:Value} (h:Sev b v0 v1 v2 v3 v4 v5 v6 u):Sev b v0 v1 v2 v3 v4 v5 v6 u' :=
 ⟨cell_on hb h.c0,cell_on hb h.c1,cell_on hb h.c2,cell_on hb h.c3,cell_on hb h.c4,cell_on hb h.c5,cell_on hb h.c6⟩
theorem Sev.new (w:World) (t:TypeId) (b:Nat) (v0 v1 v2 v3 v4 v5 v6:Value) (hb:b=w.heap.size):Sev b v0 v1 v2 v3 v4 v5 v6 (w.alloc (.cells #[v0,v1,v2,v3,v4,v5,v6] t)):=by
 refine ⟨?_,?_,?_,?_,?_,?_,?_⟩<;>(rw [World.cell?_alloc_at _ t _ _ hb];rfl)
end Rep
theorem below_go' {w u v:World} (h:Below w.heap.size w u) (k:Below u.heap.size u v):Below w.heap.size w v:=h.trans (k.mono h.size)
theorem new_on' (w:World) (o:Obj):Below w.heap.size w (w.alloc o):=(Below.refl _ w).alloc (Nat.le_refl _) o
theorem drew_on (w:World):Below w.heap.size w w.drew:=(Below.refl _ w).drew
def SameSays (d:Nat):Prop:=∀(va vb:Value) (a b:IL d) (w:World),At w d va a->At w d vb b ->
  Calls Tryd.prog 20 #[va,vb] w fun e w'=>e=.returned (.bool (samI d a b))/\Below w.heap.size w w'
theorem refInstrsNe (oa ob:Option Addr) (n k ca cb:Nat) (w:World) (hn:n<=9223372036854775807) (hk:k<=9223372036854775807) (hne:n≠k) :
  Calls Tryd.prog 20 #[.slice oa n ca,.slice ob k cb] w fun e w'=>e=.returned (.bool false)/\w'=w:=by
 have hne':((n:Int) != (k:Int))=true:=by rw [bne_iff_ne];omega
 go_enter Tryd.func20,Tryd.ntmps20
 go_wp2
 go_ret
 exact ⟨rfl,rfl⟩
set_option maxHeartbeats 1000000 in
theorem refInstrs0 (oa ob:Option Addr) (ca cb:Nat) (w:World) :
  Calls Tryd.prog 20 #[.slice oa 0 ca,.slice ob 0 cb] w fun e w'=>e=.returned (.bool true)/\w'=w:=by
 go_enter Tryd.func20,Tryd.ntmps20
 go_wp2_with fail
 go_loopw [5] (fun i wr=>i=.int .i64 0/\wr=w) (fun _ _=>0)
 case atStart=>exact ⟨rfl,rfl⟩
 case round =>
  obtain ⟨rfl,rfl⟩:=hrel
  go_wp2
  go_ret
  exact ⟨rfl,rfl⟩
set_option maxRecDepth 100000 in
set_option maxHeartbeats 4000000 in
theorem refInstrsS (d:Nat) (IH:SameSays d) (va vb:Value) (a b:List (Ins (IL d))) (w:World) (hA:Row 7 (InsAt w (At w d)) va a) (hB:Row 7 (InsAt w (At w d)) vb b) :
  Calls Tryd.prog 20 #[va,vb] w fun e w'=>e=.returned (.bool (samL (samI d) a b))/\Below w.heap.size w w':=by
 have la:=hA.1
 have lb:=hB.1
 obtain ⟨oa,ca,rfl⟩:=Row.len hA
 obtain ⟨ob,cb,rfl⟩:=Row.len hB
 by_cases hne:a.length=b.length
 rotate_left
 ·rw [samL_len _ _ hne]
  exact (refInstrsNe oa ob _ _ ca cb w la lb hne).mono fun e w' ⟨h1,h2⟩=>⟨h1,by rw [h2];exact Below.refl _ _⟩
 have HA:=hideR hA
 have HB:=hideR hB
 obtain ⟨R,hR⟩:∃R,R=samL (samI d) a b:=⟨_,rfl⟩
 rw [<- hR]
 have HR:Hid (R=samL (samI d) (a.drop 0) (b.drop 0)):=hR
 clear hA hB hR
 generalize hn:a.length=n at *
 generalize hm:b.length=k at *
 subst hne
 clear lb
 go_enter Tryd.func20,Tryd.ntmps20
 go_wp2_with fail
 go_loopw [5] (fun i wr=>∃j:Nat,j<=n/\i=.int .i64 j/\Hid (R=samL (samI d) (a.drop j) (b.drop j))/\Hid (Below w.heap.size w wr)) (fun i _=>n-(intOf i).toNat)
 case atStart=>exact ⟨0,by omega,rfl,HR,hideR (Below.refl _ _)⟩
 case round =>
  obtain ⟨j,hj,rfl,HK,HP⟩:=hrel
  by_cases hgo:j<n
  ·obtain ⟨b1,off1,cap1,hv1,hx1⟩:=Row.some HA.out (by omega)
   injection hv1 with ho1 e11 e12
   subst ho1
   obtain ⟨b2,off2,cap2,hv2,hx2⟩:=Row.some HB.out (by omega)
   injection hv2 with ho2 e21 e22
   subst ho2
   obtain ⟨x,hxk⟩:∃x,a[j]?=some x:=⟨_,List.getElem?_eq_getElem (by omega)⟩
   obtain ⟨y,hyk⟩:∃y,b[j]?=some y:=⟨_,List.getElem?_eq_getElem (by omega)⟩
   have HX:=hideR ((hx1 j x hxk).on HP.out (At.on HP.out d))
   have HY:=hideR ((hx2 j y hyk).on HP.out (At.on HP.out d))
   have HN:=hideR (samL_on hxk hyk HK.out)
   clear hx1 hx2 hxk hyk HK e11 e12 e21 e22
   obtain ⟨g0,g1,g2,g3,⟨lx,g4,ax4⟩,⟨bx,g5,ax5⟩,⟨ex,g6,ax6⟩⟩:=HX.out
   obtain ⟨h0,h1,h2,h3,⟨ly,h4,ay4⟩,⟨by_,h5,ay5⟩,⟨ey,h6,ay6⟩⟩:=HY.out
   obtain ⟨lxo,lxc,rfl⟩:=Row.len ax4
   obtain ⟨lyo,lyc,rfl⟩:=Row.len ay4
   obtain ⟨bxo,bxc,rfl⟩:=At.len d bx _ ax5
   obtain ⟨exo,exc,rfl⟩:=At.len d ex _ ax6
   obtain ⟨byo,byc,rfl⟩:=At.len d by_ _ ay5
   obtain ⟨eyo,eyc,rfl⟩:=At.len d ey _ ay6
   have AX4:=hideR ax4
   have AX5:=hideR ax5
   have AX6:=hideR ax6
   have AY4:=hideR ay4
   have AY5:=hideR ay5
   have AY6:=hideR ay6
   clear ax4 ax5 ax6 ay4 ay5 ay6 HX HY
   have z1:b1<wr.heap.size:=World.block_lt_of_cell? _ _ g0
   have z2:b2<wr.heap.size:=World.block_lt_of_cell? _ _ h0
   go_upto_region 6 with fail
   go_cut [6,7] from 19 to 26 (fun s6 s7 wx=>∃p q:Nat,s6=.pointer (some ⟨p,0,none⟩)/\s7=.pointer (some ⟨q,0,none⟩)/\Hid (Sev p (.int .i64 x.op) (.int .i64 x.a) (.int .i64 x.b) (.int .i64 x.n) (.slice lxo x.labels.length lxc) (.slice bxo (size d x.body) bxc) (.slice exo (size d x.els) exc) wx)/\Hid (Sev q (.int .i64 y.op) (.int .i64 y.a) (.int .i64 y.b) (.int .i64 y.n) (.slice lyo y.labels.length lyc) (.slice byo (size d y.body) byc) (.slice eyo (size d y.els) eyc) wx)/\Hid (Below wr.heap.size wr wx))
   case first =>
    go_region
    ·go_wp2_with fail
     go_meet
     exact ⟨wr.heap.size,wr.heap.size+1,rfl,rfl,hideR (Sev.on (drew_on _) (Sev.on (new_on' _ _) (Sev.new wr _ _ _ _ _ _ _ _ _ rfl))),hideR (Sev.on (drew_on _) (Sev.new _ _ _ _ _ _ _ _ _ _ (by simp))),hideR (below_go' (below_go' (new_on' _ _) (new_on' _ _)) (drew_on _))⟩
    ·go_wp2_with fail
     go_meet
     exact ⟨wr.heap.size+1,wr.heap.size,rfl,rfl,hideR (Sev.on (drew_on _) (Sev.new _ _ _ _ _ _ _ _ _ _ (by simp))),hideR (Sev.on (drew_on _) (Sev.on (new_on' _ _) (Sev.new wr _ _ _ _ _ _ _ _ _ rfl))),hideR (below_go' (below_go' (new_on' _ _) (new_on' _ _)) (drew_on _))⟩
   obtain ⟨p,q,rfl,rfl,SX,SY,HC⟩:=hcut
   clear g0 g1 g2 g3 g4 g5 g6 h0 h1 h2 h3 h4 h5 h6 z1 z2
   have HP:=hideR (below_go' HP.out HC.out)
   have AX4:=hideR (AX4.out.on HC.out)
   have AY4:=hideR (AY4.out.on HC.out)
   have AX5:=hideR (At.on HC.out _ _ _ AX5.out)
   have AY5:=hideR (At.on HC.out _ _ _ AY5.out)
   have AX6:=hideR (At.on HC.out _ _ _ AX6.out)
   have AY6:=hideR (At.on HC.out _ _ _ AY6.out)
   clear HC
   obtain ⟨g0,g1,g2,g3,g4,g5,g6⟩:=SX.out
   obtain ⟨h0,h1,h2,h3,h4,h5,h6⟩:=SY.out
   have HN2:Hid (R=(sam1 (samI d) x y && samL (samI d) (a.drop (j+1)) (b.drop (j+1)))):=HN
   unfold sam1 at HN2
   clear HN
   by_cases eop:x.op=y.op
   rotate_left
   ·have top:(x.op != y.op)=true:=by rw [bne_iff_ne];exact eop
    obtain rfl:R=false:=by rw [HN2.out,decide_eq_false eop];rfl
    clear HN2
    go_wp2
    go_ret
    exact ⟨rfl,HP.out⟩
   have top:(x.op != y.op)=false:=by rw [bne_eq_false_iff_eq];exact eop
   rw [decide_eq_true eop,Bool.true_and] at HN2
   by_cases ea:x.a=y.a
   rotate_left
   ·have ta:(x.a != y.a)=true:=by rw [bne_iff_ne];exact ea
    obtain rfl:R=false:=by rw [HN2.out,decide_eq_false ea];rfl
    clear HN2
    go_wp2
    go_ret
    exact ⟨rfl,HP.out⟩
   have ta:(x.a != y.a)=false:=by rw [bne_eq_false_iff_eq];exact ea
   rw [decide_eq_true ea,Bool.true_and] at HN2
   by_cases eb:x.b=y.b
   rotate_left
   ·have tb:(x.b != y.b)=true:=by rw [bne_iff_ne];exact eb
    obtain rfl:R=false:=by rw [HN2.out,decide_eq_false eb];rfl
    clear HN2
    go_wp2
    go_ret
    exact ⟨rfl,HP.out⟩
   have tb:(x.b != y.b)=false:=by rw [bne_eq_false_iff_eq];exact eb
   rw [decide_eq_true eb,Bool.true_and] at HN2
   by_cases en:x.n=y.n
   rotate_left
   ·have tn:(x.n != y.n)=true:=by rw [bne_iff_ne];exact en
    obtain rfl:R=false:=by rw [HN2.out,decide_eq_false en];rfl
    clear HN2
    go_wp2
    go_ret
    exact ⟨rfl,HP.out⟩
   have tn:(x.n != y.n)=false:=by rw [bne_eq_false_iff_eq];exact en
   rw [decide_eq_true en,Bool.true_and] at HN2
   go_wp2_with fail
   refine (refKeep _ _ x.labels y.labels _ AX4.out AY4.out).mono ?_
   rintro e u1 ⟨rfl,nd,hnd⟩
   have hb:Below wc.heap.size wc u1:=by rw [hnd];exact below_drewN' _ _
   clear hnd
   have HP:=hideR (below_go' HP.out hb)
   have SX:=hideR (SX.out.on hb)
   have SY:=hideR (SY.out.on hb)
   have AX5:=hideR (At.on hb _ _ _ AX5.out)
   have AY5:=hideR (At.on hb _ _ _ AY5.out)
   have AX6:=hideR (At.on hb _ _ _ AX6.out)
   have AY6:=hideR (At.on hb _ _ _ AY6.out)
   clear hb g0 g1 g2 g3 g4 g5 g6 h0 h1 h2 h3 h4 h5 h6 AX4 AY4
   generalize decide (x.labels=y.labels)=tl at *
   cases tl with
   | false =>
    obtain rfl:R=false:=HN2.out
    clear HN2
    go_wp2
    go_ret
    exact ⟨rfl,HP.out⟩
   | true =>
   obtain ⟨g0,g1,g2,g3,g4,g5,g6⟩:=SX.out
   obtain ⟨h0,h1,h2,h3,h4,h5,h6⟩:=SY.out
   go_wp2_with fail
   refine (IH _ _ x.body y.body _ AX5.out AY5.out).mono ?_
   rintro e u2 ⟨rfl,hb⟩
   have HP:=hideR (below_go' HP.out hb)
   have SX:=hideR (SX.out.on hb)
   have SY:=hideR (SY.out.on hb)
   have AX6:=hideR (At.on hb _ _ _ AX6.out)
   have AY6:=hideR (At.on hb _ _ _ AY6.out)
   clear hb g0 g1 g2 g3 g4 g5 g6 h0 h1 h2 h3 h4 h5 h6 AX5 AY5
   generalize samI d x.body y.body=tb at *
   cases tb with
   | false =>
    obtain rfl:R=false:=HN2.out
    clear HN2
    go_wp2
    go_ret
    exact ⟨rfl,HP.out⟩
   | true =>
   obtain ⟨g0,g1,g2,g3,g4,g5,g6⟩:=SX.out
   obtain ⟨h0,h1,h2,h3,h4,h5,h6⟩:=SY.out
   go_wp2_with fail
   refine (IH _ _ x.els y.els _ AX6.out AY6.out).mono ?_
   rintro e u3 ⟨rfl,hb⟩
   have HP:=hideR (below_go' HP.out hb)
   clear hb g0 g1 g2 g3 g4 g5 g6 h0 h1 h2 h3 h4 h5 h6 AX6 AY6 SX SY
   generalize samI d x.els y.els=te at *
   cases te with
   | false =>
    obtain rfl:R=false:=HN2.out
    clear HN2
    go_wp2
    go_ret
    exact ⟨rfl,HP.out⟩
   | true =>
   have HN3:Hid (R=samL (samI d) (a.drop (j+1)) (b.drop (j+1))):=hideR (by rw [HN2.out];simp only [Bool.true_and])
   clear HN2
   go_wp2
   go_roundw
   case rel=>exact ⟨j+1,by omega,by go_num,HN3,HP⟩
   case measure=>simp [intOf];omega
  ·obtain rfl:R=true:=by rw [HK.out,List.drop_of_length_le (by omega),List.drop_of_length_le (by omega)];rfl
   clear HK
   go_wp2
   go_ret
   exact ⟨rfl,HP.out⟩
theorem refInstrs:∀(d:Nat),SameSays d
 | 0=>fun va vb a b w ⟨oa,ca,hva⟩ ⟨ob,cb,hvb⟩=>by
  subst hva
  subst hvb
  exact (refInstrs0 oa ob ca cb w).mono fun e w' ⟨h1,h2⟩=>⟨h1,by rw [h2];exact Below.refl _ _⟩
 | d+1=>fun va vb a b w hA hB=>refInstrsS d (refInstrs d) va vb a b w hA hB
end Go.Proofs.YtlcpagiljfpbpaaDoor

