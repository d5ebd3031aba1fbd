/- Texts that the claim needs. -/
import Derived.Test.YthfapccopngfhaaDoorQDex24
namespace Go.Proofs.YthfapccopngfhaaDoor
open Go.RowKit Rep Dec
set_option linter.unusedVariables false
namespace Dec
def rlt (s:ByteArray) (en at_:Nat):R (List Int):=bd (rc s en at_) fun n i=>rep (rt s en) n.toNat i
end Dec
set_option maxRecDepth 100000 in
set_option maxHeartbeats 4000000 in
theorem dTys (w0:World) (p:Nat) (s:ByteArray) (c:Nat->Value) (en k i n:Nat) (w:World) (h:RS w0 p s c en k i n w) :
  Calls Tryd.prog 67 #[.pointer (some ⟨p,0,none⟩),.func (.func 68) #[.pointer (some ⟨p,0,none⟩)] #[]] w (Rds w0 p s c en k n (vInts w.heap.size) w (rlt s en i)):=by
 have HC:=hideR (dCnt w0 p s c en k i n w h)
 have hpw:=h.lt
 have hlen:=h.len
 have hle:=h.le
 clear h
 unfold rlt
 cases hx:rc s en i with
 | error z =>
  rw [hx] at HC
  rw [bd_err]
  clear hx
  go_enter Tryd.func67,Tryd.ntmps67
  go_wp2_with fail
  refine HC.out.mono ?_
  rintro e w1 ⟨rfl,hb⟩
  exact ⟨rfl,rfl,hb⟩
 | ok v =>
  obtain ⟨x,j⟩:=v
  have hrc:=rc_ok hlen hx
  rw [hx] at HC
  rw [bd_ok]
  obtain ⟨m,rfl⟩:∃m:Nat,x=(m:Int):=⟨x.toNat,by omega⟩
  have hm:m<=4096:=by omega
  rw [show ((m:Int).toNat)=m by omega]
  obtain ⟨R,hR⟩:∃R,R=rep (rt s en) m j:=⟨_,rfl⟩
  rw [<- hR]
  have HR:=hideR hR
  clear hx hrc hR hlen hle
  go_enter Tryd.func67,Tryd.ntmps67
  go_wp2_with fail
  refine HC.out.mono ?_
  rintro e w1 ⟨⟨v,rfl,hv⟩,h1,h2⟩
  have hv:v=.int .i64 m:=hv
  subst hv
  have H1:=hideR h1
  have H2:=hideR h2
  clear h1 h2 HC
  go_wp2_with fail
  go_loopw [5,8] (fun t u wr=>∃(q:Nat) (l:List Int) (jq:Nat),q<=m/\u=.int .i64 q/\l.length=q/\(∃o c,t=.slice o q c)/\Hid (R=pre l (rep (rt s en) (m-q) jq))/\Hid (RS w0 p s c en k jq n wr)/\Hid (But p w wr)/\Hid (wr.ownsRow w.heap.size 3 1 t q (l.map fun z=>Value.int .i64 z))) (fun _ u _=>m-(RowKit.intOf u).toNat)
  case atStart=>exact ⟨0,[],j,by omega,rfl,rfl,⟨none,0,rfl⟩,hideR (by rw [HR.out,pre_nil];rfl),H1,H2,hideR (World.ownsRow_nil _ _ _ _)⟩
  case round =>
   obtain ⟨q,l,jq,hq,rfl,hl,⟨oT,cT,rfl⟩,HP,HS,HB,HO⟩:=hrel
   by_cases hgo:q<m
   ·have hU:=dVt w0 p s c en k jq n wr HS.out
    obtain ⟨r,hr⟩:∃r,m-q=r+1:=⟨m-q-1,by omega⟩
    cases hu:rt s en jq with
    | error z =>
     rw [hu] at hU
     have HU:=hideR hU
     have HZ:Hid (R=.error z):=hideR (by rw [HP.out,hr];exact pre_err l _ r jq z hu)
     clear hU hu HP HO
     go_wp2_with fail
     refine HU.out.mono ?_
     rintro e w2 ⟨rfl,hb⟩
     exact ⟨rfl,by rw [HZ.out];exact ⟨rfl,hb⟩⟩
    | ok v =>
     obtain ⟨y,j2⟩:=v
     rw [hu] at hU
     have HU:=hideR hU
     have HZ:Hid (R=pre (l++[y]) (rep (rt s en) (m-(q+1)) j2)):=hideR (by rw [HP.out,hr,pre_on l _ r jq y j2 hu,show m-(q+1)=r by omega])
     clear hU hu HP
     go_wp2_with fail
     refine HU.out.mono ?_
     rintro e w2 ⟨⟨v,rfl,hv⟩,h1,h2⟩
     have hv:v=.int .i64 y:=hv
     subst hv
     have HO2:=hideR ((own_but HO.out hpw h2).alloc (.cells #[.int .i64 y] 3))
     have HN:=hideR (new_at w2 (.int .i64 y) 3)
     have HB2:=hideR ((HB.out.trans h2).trans (But.of p (new_on' w2 (.cells #[.int .i64 y] 3))))
     have HS2:=hideR (h1.on (new_on' w2 (.cells #[.int .i64 y] 3)))
     have HSZ:Hid (w.heap.size<=w2.heap.size):=hideR (Nat.le_trans HB.out.size h2.size)
     clear h1 h2 HU HO HS HB
     obtain ⟨i0,hi,hz0,hz1,hz2⟩:=info_parts intInfo
     go_wp2_with (first|(at_builtin;refine wpList_appS rfl _ _ 37 rfl w.heap.size 3 i0 _ 1 8 Tryd.underlying37 hi hz0 hz1 hz2 rfl (by decide) _ _ _ rfl HO2.out (some ⟨w2.heap.size,0,none⟩) 1 1 [.int .i64 y] rfl ?c6 ?c0 ?c1 ?c2 ?c3 ?c4 ?c5 ?_))
     case c6=>intro h;cases h
     case c0=>rfl
     case c1=>exact fun ad h=>by injection h with h;subst h;exact HN.out
     case c2=>exact fun u hu=>by rw [List.mem_singleton.1 hu];rfl
     case c3=>unfold maxLen;omega
     case c4=>omega
     case c5=>have:=HSZ.out;simp;omega
     intro v9 w9 hown9 hg9 _
     have ho9:∀q',(Value.slice oT q cT).ownBlock=some q'->w.heap.size<=q':=fun q' hq'=>(HO2.out.lt q' hq').1
     have HS9:=hideR (HS2.out.grown hg9 (fun q' hq'=>Nat.lt_of_lt_of_le hpw (ho9 q' hq')))
     have HB9:=hideR (But.grown (p:=p) HB2.out hg9 ho9)
     have HO9:Hid (w9.ownsRow w.heap.size 3 1 v9 (q+1) ((l++[y]).map fun z=>Value.int .i64 z)):=hideR (by rw [List.map_append];exact hown9)
     have hsl:=own_slice hown9
     clear hown9 hg9 ho9 HO2 HN HB2 HS2
     obtain ⟨oN,cN,rfl⟩:=hsl
     go_wp2
     go_roundw
     case rel=>exact ⟨q+1,l++[y],j2,by omega,by go_num,by simp [hl],⟨_,_,rfl⟩,HZ,HS9,HB9,HO9⟩
     case measure=>simp [RowKit.intOf];omega
   ·obtain rfl:q=m:=by omega
    have HZ:Hid (R=.ok (l,jq)):=hideR (by rw [HP.out,Nat.sub_self];exact pre_end l _ jq)
    have HV:Hid (vInts w.heap.size l (.slice oT q cT) wr):=hideR (ints_own (l:=l) (by rw [hl];exact HO.out) (by omega))
    clear HP HO
    go_wp2
    go_ret
    rw [HZ.out]
    exact ⟨⟨_,rfl,HV.out⟩,HS.out,HB.out⟩
end Go.Proofs.YthfapccopngfhaaDoor

namespace Go.Proofs.YthfapccopngfhaaDoor
open Go.RowKit Rep Dec
set_option linter.unusedVariables false
set_option linter.unusedSimpArgs false
namespace Dec
structure LI (w0 w:World) (p:Nat) (s:ByteArray) (c:Nat->Value) (en k i n T:Nat) (cs:Array Value) (u:World):Prop where
 rs:RS w0 p s c en k i n u
 but:But p w u
 res:u.heap[w.heap.size]?=some (.cells cs T (0,0))
 pw:p<w.heap.size
section
variable {w0 w u:World} {p:Nat} {s:ByteArray} {c:Nat->Value} {en k i n T:Nat} {cs:Array Value}
theorem LI.start (h:RS w0 p s c en k i n w) (T:Nat) (cs:Array Value):LI w0 w p s c en k i n T cs (w.alloc (.cells cs T)) :=
 ⟨h.on (new_on' w _),But.of p (new_on' w _),heap_alloc_new' w _ rfl,h.lt⟩
theorem LI.call {i2 n2:Nat} {u2:World} (h:LI w0 w p s c en k i n T cs u) (h1:RS w0 p s c en k i2 n2 u2) (h2:But p u u2):LI w0 w p s c en k i2 n2 T cs u2 :=
 ⟨h1,h.but.trans h2,by rw [h2.block _ (Array.getElem?_eq_some_iff.1 h.res).1 (fun e=>by injection e with e;have:=h.pw;omega)];exact h.res,h.pw⟩
theorem LI.set (h:LI w0 w p s c en k i n T cs u) (j:Nat) (v:Value):LI w0 w p s c en k i n T (cs.setIfInBounds j v) (u.setCell ⟨w.heap.size,j,none⟩ v) :=
 ⟨h.rs.set (by have:=h.pw;omega) (by have:=h.rs.base;have:=h.pw;omega) _ _,but_set h.but (Nat.le_refl _) _ _,heap_setCell_same u _ j _ _ v h.res,h.pw⟩
theorem LI.cell (h:LI w0 w p s c en k i n T cs u) (j:Nat) (v:Value) (hv:cs[j]?=some v):u.cell? ⟨w.heap.size,j,none⟩=some v:=by
 unfold World.cell?;rw [h.res];exact hv
theorem LI.frz (h:LI w0 w p s c en k i n T cs u) (j:Nat):u.frozen? ⟨w.heap.size,j,none⟩=false:=by unfold World.frozen?;rw [h.res];simp
theorem RS.pos (h:RS w0 p s c en k i n w):w0.heap.size<=w.heap.size:=h.below.size
theorem LI.lt (h:LI w0 w p s c en k i n T cs u):w.heap.size+1<=u.heap.size:=(Array.getElem?_eq_some_iff.1 h.res).1
theorem LI.kept {u2:World} (h:LI w0 w p s c en k i n T cs u) (h2:But p u u2):∀k,Since (w.heap.size+1) u none k->Since (w.heap.size+1) u2 none k/\u2.heap[k]?=u.heap[k]?:=since_but (by have:=h.pw;omega) h2
theorem keep_set (w u:World) (j:Nat) (v:Value):∀k,Since (w.heap.size+1) u none k->Since (w.heap.size+1) (u.setCell ⟨w.heap.size,j,none⟩ v) none k/\(u.setCell ⟨w.heap.size,j,none⟩ v).heap[k]?=u.heap[k]?:=fun k hk =>
 ⟨⟨hk.1,by simpa using hk.2.1,by simp⟩,Below.heap_setCell _ _ _ _ (by have:=hk.1;show k≠w.heap.size;omega)⟩
theorem keep_in {B:Nat} (w u:World) (hB:w.heap.size+1<=B):∀k,Since B u none k->Since (w.heap.size+1) u none k/\u.heap[k]?=u.heap[k]?:=fun k hk=>⟨⟨Nat.le_trans hB hk.1,hk.2.1,hk.2.2⟩,rfl⟩
theorem keep_out (w u:World):∀k,Since (w.heap.size+1) u none k->Since w.heap.size u none k/\u.heap[k]?=u.heap[k]?:=fun k hk=>⟨⟨by have:=hk.1;omega,hk.2.1,hk.2.2⟩,rfl⟩
end
def rlim (s:ByteArray) (en i:Nat):R Lim:=bd (rflag s en i) fun f j=>bd (ru s en j) fun a m=>if f=true then bd (ru s en m) fun b q=>.ok (⟨a,b,true⟩,q) else .ok (⟨a,0,false⟩,m)
def kPlain {α:Type} (C:α->List Value):EK α:=fun _ _ x vs=>vs=C x
def kLim:EK Lim:=kPlain fun x=>[.int .i64 x.min,.int .i64 x.max,.bool x.has]
def rft (s:ByteArray) (en i:Nat):R FT:=bd (must s en 96 i) fun _ j=>bd (rlt s en j) fun a m=>bd (rlt s en m) fun b q=>.ok (⟨a,b⟩,q)
def kFT:EK FT:=fun w S x vs=>∃a b,vs = [a,b]/\IntsS w S a x.params/\IntsS w S b x.results
end Dec
section
variable (w0:World) (p:Nat) (s:ByteArray) (c:Nat->Value) (en k i n:Nat) (w:World) (h:RS w0 p s c en k i n w)
include h
set_option maxRecDepth 100000 in
set_option maxHeartbeats 4000000 in
theorem dLim:Calls Tryd.prog 45 #[.pointer (some ⟨p,0,none⟩)] w (Rds w0 p s c en k n (vLim kLim w.heap.size) w (rlim s en i)):=by
 have HS:=hideR (LI.start h 86 #[.int .i64 0,.int .i64 0,.bool false])
 clear h
 obtain ⟨R,hR⟩:∃R,R=rlim s en i:=⟨_,rfl⟩
 rw [<- hR]
 have HR:=hideR hR
 clear hR
 go_enter Tryd.func45,Tryd.ntmps45
 have hc0:=dFlag w0 p s c en k i n (w.alloc (.cells #[.int .i64 0,.int .i64 0,.bool false] 86)) HS.out.rs
 have HC0:=hideR hc0
 clear hc0
 go_wp2_with fail
 refine HC0.out.mono ?_
 intro e u0 hr
 cases hx0:rflag s en i with
 | error z =>
  rw [hx0] at hr
  obtain ⟨rfl,hb⟩:=hr
  have HX0:=hideR hx0
  have hz:R=.error z:=by rw [HR.out];unfold rlim;simp only [bd_ok,bd_err,HX0.out,if_true,Bool.false_eq_true,if_false]
  exact ⟨rfl,by rw [hz];exact ⟨rfl,hb⟩⟩
 | ok v =>
  obtain ⟨z0,q0⟩:=v
  rw [hx0] at hr
  obtain ⟨⟨v0,rfl,hv0⟩,h1,h2⟩:=hr
  have hv0:v0=.bool z0:=hv0
  subst hv0
  have HX0:=hideR hx0
  have HS0:=hideR (HS.out.call h1 h2)
  clear h1 h2 hx0 HC0 HS
  have x2:=HS0.out.cell 2 _ rfl
  have y2:=HS0.out.frz 2
  have HS02:Hid (LI w0 w p s c en k q0 n 86 #[.int .i64 0,.int .i64 0,.bool z0] (u0.setCell ⟨w.heap.size,2,none⟩ (.bool z0))):=hideR (HS0.out.set 2 _)
  have hc1:=dUns w0 p s c en k q0 n (u0.setCell ⟨w.heap.size,2,none⟩ (.bool z0)) HS02.out.rs
  have HC1:=hideR hc1
  clear hc1
  go_wp2_with fail
  refine HC1.out.mono ?_
  intro e u1 hr
  cases hx1:ru s en q0 with
  | error z =>
   rw [hx1] at hr
   obtain ⟨rfl,hb⟩:=hr
   have HX1:=hideR hx1
   have hz:R=.error z:=by rw [HR.out];unfold rlim;simp only [bd_ok,bd_err,HX0.out,HX1.out,if_true,Bool.false_eq_true,if_false]
   exact ⟨rfl,by rw [hz];exact ⟨rfl,hb⟩⟩
  | ok v =>
   obtain ⟨z1,q1⟩:=v
   rw [hx1] at hr
   obtain ⟨⟨v1,rfl,hv1⟩,h1,h2⟩:=hr
   have hv1:v1=.int .i64 z1:=hv1
   subst hv1
   have HX1:=hideR hx1
   have HS1:=hideR (HS02.out.call h1 h2)
   clear h1 h2 hx1 HC1 HS02
   have x0:=HS1.out.cell 0 _ rfl
   have y0:=HS1.out.frz 0
   have HS10:Hid (LI w0 w p s c en k q1 n 86 #[.int .i64 z1,.int .i64 0,.bool z0] (u1.setCell ⟨w.heap.size,0,none⟩ (.int .i64 z1))):=hideR (HS1.out.set 0 _)
   have x2:=HS10.out.cell 2 _ rfl
   have y2:=HS10.out.frz 2
   cases z0 with
   | true =>
    have hc2:=dUns w0 p s c en k q1 n (u1.setCell ⟨w.heap.size,0,none⟩ (.int .i64 z1)) HS10.out.rs
    have HC2:=hideR hc2
    clear hc2
    go_wp2_with fail
    refine HC2.out.mono ?_
    intro e u2 hr
    cases hx2:ru s en q1 with
    | error z =>
     rw [hx2] at hr
     obtain ⟨rfl,hb⟩:=hr
     have HX2:=hideR hx2
     have hz:R=.error z:=by rw [HR.out];unfold rlim;simp only [bd_ok,bd_err,HX0.out,HX1.out,HX2.out,if_true,Bool.false_eq_true,if_false]
     exact ⟨rfl,by rw [hz];exact ⟨rfl,hb⟩⟩
    | ok v =>
     obtain ⟨z2,q2⟩:=v
     rw [hx2] at hr
     obtain ⟨⟨v2,rfl,hv2⟩,h1,h2⟩:=hr
     have hv2:v2=.int .i64 z2:=hv2
     subst hv2
     have HX2:=hideR hx2
     have HS2:=hideR (HS10.out.call h1 h2)
     clear h1 h2 hx2 HC2 HS10
     have x1:=HS2.out.cell 1 _ rfl
     have y1:=HS2.out.frz 1
     have HS21:Hid (LI w0 w p s c en k q2 n 86 #[.int .i64 z1,.int .i64 z2,.bool true] (u2.setCell ⟨w.heap.size,1,none⟩ (.int .i64 z2))):=hideR (HS2.out.set 1 _)
     have x0:=HS21.out.cell 0 _ rfl
     have y0:=HS21.out.frz 0
     have x1:=HS21.out.cell 1 _ rfl
     have y1:=HS21.out.frz 1
     have x2:=HS21.out.cell 2 _ rfl
     have y2:=HS21.out.frz 2
     go_wp2
     have HT0:Hid (LI w0 w p s c en k q2 n 86 #[.int .i64 z1,.int .i64 z2,.bool true] ((u2.setCell ⟨w.heap.size,1,none⟩ (.int .i64 z2)).setCell ⟨w.heap.size,0,none⟩ (.int .i64 z1))):=hideR (HS21.out.set 0 _)
     have HT1:Hid (LI w0 w p s c en k q2 n 86 #[.int .i64 z1,.int .i64 z2,.bool true] (((u2.setCell ⟨w.heap.size,1,none⟩ (.int .i64 z2)).setCell ⟨w.heap.size,0,none⟩ (.int .i64 z1)).setCell ⟨w.heap.size,1,none⟩ (.int .i64 z2))):=hideR (HT0.out.set 1 _)
     have HT2:Hid (LI w0 w p s c en k q2 n 86 #[.int .i64 z1,.int .i64 z2,.bool true] ((((u2.setCell ⟨w.heap.size,1,none⟩ (.int .i64 z2)).setCell ⟨w.heap.size,0,none⟩ (.int .i64 z1)).setCell ⟨w.heap.size,1,none⟩ (.int .i64 z2)).setCell ⟨w.heap.size,2,none⟩ (.bool true))):=hideR (HT1.out.set 2 _)
     have t0:=HT2.out.cell 0 _ rfl
     have t1:=HT2.out.cell 1 _ rfl
     have t2:=HT2.out.cell 2 _ rfl
     have hz:R=.ok (⟨z1,z2,true⟩,q2):=by rw [HR.out];unfold rlim;simp only [bd_ok,bd_err,HX0.out,HX1.out,HX2.out,if_true,Bool.false_eq_true,if_false]
     rw [hz]
     exact bodyPost_ret (v:=.agg #[.int .i64 z1,.int .i64 z2,.bool true]) (by simp [results,Tryd.results45,go_sem,t0,t1,t2]) rfl ⟨⟨_,rfl,rfl,rfl⟩,HT2.out.rs,HT2.out.but⟩
   | false =>
    have x0:=HS10.out.cell 0 _ rfl
    have y0:=HS10.out.frz 0
    have x1:=HS10.out.cell 1 _ rfl
    have y1:=HS10.out.frz 1
    have x2:=HS10.out.cell 2 _ rfl
    have y2:=HS10.out.frz 2
    go_wp2
    have HT0:Hid (LI w0 w p s c en k q1 n 86 #[.int .i64 z1,.int .i64 0,.bool false] ((u1.setCell ⟨w.heap.size,0,none⟩ (.int .i64 z1)).setCell ⟨w.heap.size,0,none⟩ (.int .i64 z1))):=hideR (HS10.out.set 0 _)
    have HT1:Hid (LI w0 w p s c en k q1 n 86 #[.int .i64 z1,.int .i64 0,.bool false] (((u1.setCell ⟨w.heap.size,0,none⟩ (.int .i64 z1)).setCell ⟨w.heap.size,0,none⟩ (.int .i64 z1)).setCell ⟨w.heap.size,1,none⟩ (.int .i64 0))):=hideR (HT0.out.set 1 _)
    have HT2:Hid (LI w0 w p s c en k q1 n 86 #[.int .i64 z1,.int .i64 0,.bool false] ((((u1.setCell ⟨w.heap.size,0,none⟩ (.int .i64 z1)).setCell ⟨w.heap.size,0,none⟩ (.int .i64 z1)).setCell ⟨w.heap.size,1,none⟩ (.int .i64 0)).setCell ⟨w.heap.size,2,none⟩ (.bool false))):=hideR (HT1.out.set 2 _)
    have t0:=HT2.out.cell 0 _ rfl
    have t1:=HT2.out.cell 1 _ rfl
    have t2:=HT2.out.cell 2 _ rfl
    have hz:R=.ok (⟨z1,0,false⟩,q1):=by rw [HR.out];unfold rlim;simp only [bd_ok,bd_err,HX0.out,HX1.out,if_true,Bool.false_eq_true,if_false]
    rw [hz]
    exact bodyPost_ret (v:=.agg #[.int .i64 z1,.int .i64 0,.bool false]) (by simp [results,Tryd.results45,go_sem,t0,t1,t2]) rfl ⟨⟨_,rfl,rfl,rfl⟩,HT2.out.rs,HT2.out.but⟩
set_option maxRecDepth 100000 in
set_option maxHeartbeats 4000000 in
theorem dFT:Calls Tryd.prog 38 #[.pointer (some ⟨p,0,none⟩)] w (Rds w0 p s c en k n (vFT kFT w.heap.size) w (rft s en i)):=by
 have HS:=hideR (LI.start h 74 #[.slice none 0 0,.slice none 0 0])
 clear h
 obtain ⟨R,hR⟩:∃R,R=rft s en i:=⟨_,rfl⟩
 rw [<- hR]
 have HR:=hideR hR
 clear hR
 go_enter Tryd.func38,Tryd.ntmps38
 have hc0:=dMust w0 p s c en k i n (w.alloc (.cells #[.slice none 0 0,.slice none 0 0] 74)) HS.out.rs 96
 have HC0:=hideR hc0
 clear hc0
 go_wp2_with fail
 refine HC0.out.mono ?_
 intro e u0 hr
 cases hx0:must s en 96 i with
 | error z =>
  rw [hx0] at hr
  obtain ⟨rfl,hb⟩:=hr
  have HX0:=hideR hx0
  have hz:R=.error z:=by rw [HR.out];unfold rft;simp only [bd_ok,bd_err,HX0.out,if_true,Bool.false_eq_true,if_false]
  exact ⟨rfl,by rw [hz];exact ⟨rfl,hb⟩⟩
 | ok v =>
  obtain ⟨z0,q0⟩:=v
  rw [hx0] at hr
  obtain ⟨⟨v0,rfl,hv0⟩,h1,h2⟩:=hr
  have hv0:v0=.tuple #[]:=hv0
  subst hv0
  have HX0:=hideR hx0
  have HS0:=hideR (HS.out.call h1 h2)
  clear h1 h2 hx0 HC0 HS
  have hc1:=dTys w0 p s c en k q0 n u0 HS0.out.rs
  have HC1:=hideR hc1
  clear hc1
  go_wp2_with fail
  refine HC1.out.mono ?_
  intro e u1 hr
  cases hx1:rlt s en q0 with
  | error z =>
   rw [hx1] at hr
   obtain ⟨rfl,hb⟩:=hr
   have HX1:=hideR hx1
   have hz:R=.error z:=by rw [HR.out];unfold rft;simp only [bd_ok,bd_err,HX0.out,HX1.out,if_true,Bool.false_eq_true,if_false]
   exact ⟨rfl,by rw [hz];exact ⟨rfl,hb⟩⟩
  | ok v =>
   obtain ⟨z1,q1⟩:=v
   rw [hx1] at hr
   obtain ⟨⟨v1,rfl,hv1⟩,h1,h2⟩:=hr
   have hv1:IntsS u1 (Since u0.heap.size u1 none) v1 z1:=hv1
   have HL1:=hideR (hv1.keep (keep_in w u1 (by simpa using HS0.out.lt)))
   obtain ⟨o1,k1,rfl⟩:=Row.len hv1
   clear hv1
   have HX1:=hideR hx1
   have HS1:=hideR (HS0.out.call h1 h2)
   clear h1 h2 hx1 HC1 HS0
   have x0:=HS1.out.cell 0 _ rfl
   have y0:=HS1.out.frz 0
   have HS10:Hid (LI w0 w p s c en k q1 n 74 #[.slice o1 z1.length k1,.slice none 0 0] (u1.setCell ⟨w.heap.size,0,none⟩ (.slice o1 z1.length k1))):=hideR (HS1.out.set 0 _)
   have HL1s0:=hideR (IntsS.keep (keep_set w u1 0 (.slice o1 z1.length k1)) HL1.out)
   clear HL1
   have hc2:=dTys w0 p s c en k q1 n (u1.setCell ⟨w.heap.size,0,none⟩ (.slice o1 z1.length k1)) HS10.out.rs
   have HC2:=hideR hc2
   clear hc2
   go_wp2_with fail
   refine HC2.out.mono ?_
   intro e u2 hr
   cases hx2:rlt s en q1 with
   | error z =>
    rw [hx2] at hr
    obtain ⟨rfl,hb⟩:=hr
    have HX2:=hideR hx2
    have hz:R=.error z:=by rw [HR.out];unfold rft;simp only [bd_ok,bd_err,HX0.out,HX1.out,HX2.out,if_true,Bool.false_eq_true,if_false]
    exact ⟨rfl,by rw [hz];exact ⟨rfl,hb⟩⟩
   | ok v =>
    obtain ⟨z2,q2⟩:=v
    rw [hx2] at hr
    obtain ⟨⟨v2,rfl,hv2⟩,h1,h2⟩:=hr
    have HL1s0k2:=hideR (IntsS.keep (HS10.out.kept h2) HL1s0.out)
    clear HL1s0
    have hv2:IntsS u2 (Since (u1.setCell ⟨w.heap.size,0,none⟩ (.slice o1 z1.length k1)).heap.size u2 none) v2 z2:=hv2
    have HL2:=hideR (hv2.keep (keep_in w u2 (by simpa using HS10.out.lt)))
    obtain ⟨o2,k2,rfl⟩:=Row.len hv2
    clear hv2
    have HX2:=hideR hx2
    have HS2:=hideR (HS10.out.call h1 h2)
    clear h1 h2 hx2 HC2 HS10
    have x1:=HS2.out.cell 1 _ rfl
    have y1:=HS2.out.frz 1
    have HS21:Hid (LI w0 w p s c en k q2 n 74 #[.slice o1 z1.length k1,.slice o2 z2.length k2] (u2.setCell ⟨w.heap.size,1,none⟩ (.slice o2 z2.length k2))):=hideR (HS2.out.set 1 _)
    have HL1s0k2s1:=hideR (IntsS.keep (keep_set w u2 1 (.slice o2 z2.length k2)) HL1s0k2.out)
    clear HL1s0k2
    have HL2s1:=hideR (IntsS.keep (keep_set w u2 1 (.slice o2 z2.length k2)) HL2.out)
    clear HL2
    have x0:=HS21.out.cell 0 _ rfl
    have y0:=HS21.out.frz 0
    have x1:=HS21.out.cell 1 _ rfl
    have y1:=HS21.out.frz 1
    go_wp2
    have HT0:Hid (LI w0 w p s c en k q2 n 74 #[.slice o1 z1.length k1,.slice o2 z2.length k2] ((u2.setCell ⟨w.heap.size,1,none⟩ (.slice o2 z2.length k2)).setCell ⟨w.heap.size,0,none⟩ (.slice o1 z1.length k1))):=hideR (HS21.out.set 0 _)
    have HL1s0k2s1s0:=hideR (IntsS.keep (keep_set w (u2.setCell ⟨w.heap.size,1,none⟩ (.slice o2 z2.length k2)) 0 (.slice o1 z1.length k1)) HL1s0k2s1.out)
    clear HL1s0k2s1
    have HL2s1s0:=hideR (IntsS.keep (keep_set w (u2.setCell ⟨w.heap.size,1,none⟩ (.slice o2 z2.length k2)) 0 (.slice o1 z1.length k1)) HL2s1.out)
    clear HL2s1
    have HT1:Hid (LI w0 w p s c en k q2 n 74 #[.slice o1 z1.length k1,.slice o2 z2.length k2] (((u2.setCell ⟨w.heap.size,1,none⟩ (.slice o2 z2.length k2)).setCell ⟨w.heap.size,0,none⟩ (.slice o1 z1.length k1)).setCell ⟨w.heap.size,1,none⟩ (.slice o2 z2.length k2))):=hideR (HT0.out.set 1 _)
    have HL1s0k2s1s0s1:=hideR (IntsS.keep (keep_set w ((u2.setCell ⟨w.heap.size,1,none⟩ (.slice o2 z2.length k2)).setCell ⟨w.heap.size,0,none⟩ (.slice o1 z1.length k1)) 1 (.slice o2 z2.length k2)) HL1s0k2s1s0.out)
    clear HL1s0k2s1s0
    have HL2s1s0s1:=hideR (IntsS.keep (keep_set w ((u2.setCell ⟨w.heap.size,1,none⟩ (.slice o2 z2.length k2)).setCell ⟨w.heap.size,0,none⟩ (.slice o1 z1.length k1)) 1 (.slice o2 z2.length k2)) HL2s1s0.out)
    clear HL2s1s0
    have t0:=HT1.out.cell 0 _ rfl
    have t1:=HT1.out.cell 1 _ rfl
    have hz:R=.ok (⟨z1,z2⟩,q2):=by rw [HR.out];unfold rft;simp only [bd_ok,bd_err,HX0.out,HX1.out,HX2.out,if_true,Bool.false_eq_true,if_false]
    rw [hz]
    exact bodyPost_ret (v:=.agg #[.slice o1 z1.length k1,.slice o2 z2.length k2]) (by simp [results,Tryd.results38,go_sem,t0,t1]) rfl ⟨⟨_,rfl,_,_,_,_,_,_,rfl,_,_,rfl,(IntsS.keep (keep_out w _) HL1s0k2s1s0s1.out),(IntsS.keep (keep_out w _) HL2s1s0s1.out)⟩,HT1.out.rs,HT1.out.but⟩
end
end Go.Proofs.YthfapccopngfhaaDoor

namespace Go.Proofs.YthfapccopngfhaaDoor
open Go.RowKit Rep Dec
set_option linter.unusedVariables false
set_option linter.unusedSimpArgs false
namespace Dec
end Dec
section
variable (w0:World) (p:Nat) (s:ByteArray) (c:Nat->Value) (en k i n:Nat) (w:World) (h:RS w0 p s c en k i n w) (d:Nat)
include h
end
end Go.Proofs.YthfapccopngfhaaDoor

namespace Go.Proofs.YthfapccopngfhaaDoor
open Go.RowKit Rep Dec
set_option linter.unusedVariables false
set_option linter.unusedSimpArgs false
namespace Dec
end Dec
section
variable (w0:World) (p:Nat) (s:ByteArray) (c:Nat->Value) (en k i n:Nat) (w:World) (h:RS w0 p s c en k i n w)
include h
end
end Go.Proofs.YthfapccopngfhaaDoor

namespace Go.Proofs.YthfapccopngfhaaDoor
open Go.RowKit Rep Dec
set_option linter.unusedVariables false
namespace Dec
def aFT:EA FT:=fun w S g o x=>(∃v,w.cell? ⟨g,o,none⟩=some v/\IntsS w S v x.params)/\∃v,w.cell? ⟨g,o+1,none⟩=some v/\IntsS w S v x.results
theorem kFT_keep:Keeps kFT:=fun w w' S S' hk x vs ⟨a,b,h,h1,h2⟩=>⟨a,b,h,h1.keep hk,h2.keep hk⟩
theorem lFT {e:TypeId}:Lies e kFT aFT:=fun w S g o x vs ⟨a,b,h,h1,h2⟩ hg hc=>by subst h;exact ⟨⟨_,hc 0 _ rfl,h1⟩,_,hc 1 _ rfl,h2⟩
end Dec
section
variable (w0:World) (p:Nat) (s:ByteArray) (c:Nat->Value) (en k i n:Nat) (w:World) (h:RS w0 p s c en k i n w)
include h
theorem sTypes:Calls Tryd.prog 37 #[.pointer (some ⟨p,0,none⟩),.func (.func 38) #[.pointer (some ⟨p,0,none⟩)] #[]] w (Rds w0 p s c en k n (fun l v u=>RowS 2 aFT u (Since w.heap.size u none) v l) w (rents (rft s en) s en i)) :=
 dFTs (rft s en) kFT aFT kFT_keep lFT w0 p s c en k i n w h fun j u hu=>dFT w0 p s c en k j n u hu
variable (hU:∀u,Below w0.heap.size w0 u->UtfI u)
include hU
end
end Go.Proofs.YthfapccopngfhaaDoor

namespace Go.Proofs.YthfapccopngfhaaDoor
open Go.RowKit Rep Dec
set_option linter.unusedVariables false
namespace Dec
def KeepF {α:Type} (F:EA α):Prop:=∀(w w':World) (S S':Nat->Prop),(∀k,S k->S' k/\w'.heap[k]?=w.heap[k]?)->∀g o x,S g->F w S g o x->F w' S' g o x
theorem RowS.keep {α:Type} {F:EA α} (hF:KeepF F) {n:Nat} {w w':World} {S S':Nat->Prop} (hk:∀k,S k->S' k/\w'.heap[k]?=w.heap[k]?) {v:Value} {l:List α} (h:RowS n F w S v l):RowS n F w' S' v l :=
 Row.imp h fun b _ _ _ h=>⟨(hk b h.1).1,hF _ _ _ _ hk _ _ _ h.1 h.2⟩
theorem aFT_keep:KeepF aFT:=fun w w' S S' hk g o x hb ⟨⟨v,a,b⟩,u,c,d⟩=>⟨⟨v,cell_keep hk hb a,b.keep hk⟩,u,cell_keep hk hb c,d.keep hk⟩
def upd (c:Nat->Value) (f:Nat) (v:Value):Nat->Value:=fun q=>if q=f then v else c q
def SRds {α:Type} (w0:World) (p:Nat) (s:ByteArray) (c:Nat->Value) (en k n f width:Nat) (F:EA α) (w:World) (x:R (List α)) (e:Ending) (w':World):Prop :=
 match x with
 | .ok (l,j)=>e=.returned (.tuple #[])/\(∃v,RowS width F w' (Since w.heap.size w' none) v l/\RS w0 p s (upd c f v) en k j n w')/\But p w w'
 | .error z=>e=.panicked (gave z)/\Below w0.heap.size w0 w'
theorem keep_p (w u:World) {p:Nat} (hp:p<w.heap.size) (j:Nat) (v:Value):∀k,Since w.heap.size u none k->Since w.heap.size (u.setCell ⟨p,j,none⟩ v) none k/\(u.setCell ⟨p,j,none⟩ v).heap[k]?=u.heap[k]?:=fun k hk =>
 ⟨⟨hk.1,by simpa using hk.2.1,by simp⟩,Below.heap_setCell _ _ _ _ (by have:=hk.1;show k≠p;omega)⟩
theorem RS.mod0 {w0 w:World} {p:Nat} {s:ByteArray} {c:Nat->Value} {en k i n:Nat} (h:RS w0 p s c en k i n w) (v:Value):RS w0 p s (upd c 0 v) en k i n (w.setCell ⟨p,3,none⟩ v) :=
 ⟨h.below.setCell h.base _,h.base,heap_setCell_same w p 3 _ _ _ h.blk,h.le,h.len,h.big⟩
end Dec
section
variable (w0:World) (p:Nat) (s:ByteArray) (c:Nat->Value) (en k i n:Nat) (w:World) (h:RS w0 p s c en k i n w)
include h
set_option maxRecDepth 100000 in
set_option maxHeartbeats 4000000 in
theorem sec1:Calls Tryd.prog 26 #[.pointer (some ⟨p,0,none⟩),.int .i64 1] w (SRds w0 p s c en k n 0 2 aFT w (rents (rft s en) s en i)):=by
 have HC:=hideR (sTypes w0 p s c en k i n w h)
 have hpw:=h.lt
 clear h
 generalize rents (rft s en) s en i=R at HC ⊢
 go_enter Tryd.func26,Tryd.ntmps26
 go_wp2_with fail
 refine HC.out.mono ?_
 intro e u hr
 cases R with
 | error z =>
  obtain ⟨rfl,hb⟩:=hr
  exact ⟨rfl,rfl,hb⟩
 | ok v =>
  obtain ⟨l,j⟩:=v
  obtain ⟨⟨v,rfl,hv⟩,h1,h2⟩:=hr
  obtain ⟨oV,kV,rfl⟩:=Row.len hv
  have HV:=hideR (RowS.keep (aFT_keep) (keep_p w u hpw 3 (.slice oV l.length kV)) hv)
  have HR:=hideR (h1.mod0 (.slice oV l.length kV))
  have HB:=hideR (h2.trans (But.set p 3 u (.slice oV l.length kV)))
  have c3:=h1.cell 3 _ rfl
  have f3:=h1.frz 3
  clear hv h1 h2 HC
  generalize l.length=nl at *
  go_wp2
  go_end0
  exact ⟨rfl,⟨_,HV.out,HR.out⟩,HB.out⟩
end
end Go.Proofs.YthfapccopngfhaaDoor

namespace Go.Proofs.YthfapccopngfhaaDoor
open Go.RowKit Rep Dec
set_option linter.unusedVariables false
namespace Dec
end Dec
section
variable (w0:World) (p:Nat) (s:ByteArray) (c:Nat->Value) (en k i n:Nat) (w:World) (h:RS w0 p s c en k i n w)
include h
set_option maxRecDepth 100000 in
set_option maxHeartbeats 4000000 in
theorem sec0 (hU:∀u,Below w0.heap.size w0 u->UtfI u):Calls Tryd.prog 26 #[.pointer (some ⟨p,0,none⟩),.int .i64 0] w (Rds w0 p s c en k n vUnit w (rcustom s en i)):=by
 have HC:=hideR (dCustom w0 p s c en k i n w h hU)
 clear h hU
 generalize rcustom s en i=R at HC ⊢
 go_enter Tryd.func26,Tryd.ntmps26
 go_wp2_with fail
 refine HC.out.mono ?_
 intro e u hr
 cases R with
 | error z =>
  obtain ⟨rfl,hb⟩:=hr
  exact ⟨rfl,rfl,hb⟩
 | ok v =>
  obtain ⟨l,j⟩:=v
  obtain ⟨⟨v,rfl,hv⟩,h1,h2⟩:=hr
  have hv:v=.tuple #[]:=hv
  subst hv
  have HR:=hideR (⟨h1,h2⟩:_/\_)
  clear h1 h2 HC
  go_wp2
  go_end0
  exact ⟨⟨_,rfl,rfl⟩,HR.out.1,HR.out.2⟩
end
end Go.Proofs.YthfapccopngfhaaDoor

