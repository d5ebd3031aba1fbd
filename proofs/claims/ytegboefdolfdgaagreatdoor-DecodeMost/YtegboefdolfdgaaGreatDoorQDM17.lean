/- Texts that the claim needs. -/
import Derived.Test.YtegboefdolfdgaaGreatDoorQDM12
import Derived.Test.YtegboefdolfdgaaGreatDoorQDM16
namespace Go.Proofs.YtegboefdolfdgaaGreatDoor
open Go.RowKit aA ai
set_option linter.unusedVariables false
set_option maxRecDepth 100000
set_option maxHeartbeats 4000000
set_option linter.unusedSimpArgs false
namespace ai
def rP (s:ByteArray) (en at_:Nat):R (List Int):=bd (rc s en at_) fun n i=>rep (rt s en) n.toNat i
end ai
theorem JZ (w0:World) (p:Nat) (s:ByteArray) (c:Nat->Value) (en k i n:Nat) (w:World) (h:RS w0 p s c en k i n w) :
  Calls Tryz.prog 71 #[.pointer (some ⟨p,0,none⟩),.func (.func 72) #[.pointer (some ⟨p,0,none⟩)] #[]] w (bw w0 p s c en k n (jN w.heap.size) w (rP s en i)):=by
 have HC:=aa (nQ w0 p s c en k i n w h);have hpw:=h.lt;have hlen:=h.len;have hle:=h.le;clear h;unfold rP;cases hx:rc s en i with
 | error z =>
  rw [hx] at HC;rw [bg];clear hx;go_enter Tryz.func71,Tryz.ntmps71;go_wp2_with fail;refine HC.out.mono ?_;rintro e w1 ⟨rfl,hb⟩;exact ⟨rfl,rfl,hb⟩
 | ok v =>
  obtain ⟨x,j⟩:=v;have hrc:=jl hlen hx;rw [hx] at HC;rw [aM];obtain ⟨m,rfl⟩:∃m:Nat,x=(m:Int):=⟨x.toNat,by omega⟩;have hm:m<=4096:=by omega
  rw [show ((m:Int).toNat)=m by omega];obtain ⟨R,hR⟩:∃R,R=rep (rt s en) m j:=⟨_,rfl⟩;rw [<- hR];have HR:=aa hR;clear hx hrc hR hlen hle;go_enter Tryz.func71,Tryz.ntmps71;go_wp2_with fail;refine HC.out.mono ?_;rintro e w1 ⟨⟨v,rfl,hv⟩,h1,h2⟩;have hv:v=.int .i64 m:=hv;subst hv;have H1:=aa h1;have H2:=aa h2;clear h1 h2 HC;go_wp2_with fail;go_loopw [5,8] (fun t u wr=>∃(q:Nat) (l:List Int) (jq:Nat),q<=m/\u=.int .i64 q/\l.length=q/\(∃o c,t=.slice o q c)/\Hid (R=pre l (rep (rt s en) (m-q) jq))/\Hid (RS w0 p s c en k jq n wr)/\Hid (But p w wr)/\Hid (wr.ownsRow w.heap.size 3 1 t q (l.map fun z=>Value.int .i64 z))) (fun _ u _=>m-(RowKit.intOf u).toNat)
  case atStart=>exact ⟨0,[],j,by omega,rfl,rfl,⟨none,0,rfl⟩,aa (by rw [HR.out,pre_nil];rfl),H1,H2,aa (World.ownsRow_nil _ _ _ _)⟩
  case round =>
   obtain ⟨q,l,jq,hq,rfl,hl,⟨oT,cT,rfl⟩,HP,HS,HB,HO⟩:=hrel;by_cases hgo:q<m
   ·have hU:=Dt w0 p s c en k jq n wr HS.out;obtain ⟨r,hr⟩:∃r,m-q=r+1:=⟨m-q-1,by omega⟩;cases hu:rt s en jq with
    | error z =>
     rw [hu] at hU;have HU:=aa hU;have HZ:Hid (R=.error z):=aa (by rw [HP.out,hr];exact mS l _ r jq z hu);clear hU hu HP HO;go_wp2_with fail;refine HU.out.mono ?_;rintro e w2 ⟨rfl,hb⟩;exact ⟨rfl,by rw [HZ.out];exact ⟨rfl,hb⟩⟩
    | ok v =>
     obtain ⟨y,j2⟩:=v;rw [hu] at hU;have HU:=aa hU;have HZ:Hid (R=pre (l++[y]) (rep (rt s en) (m-(q+1)) j2)):=aa (by rw [HP.out,hr,pre_on l _ r jq y j2 hu,show m-(q+1)=r by omega]);clear hU hu HP;go_wp2_with fail;refine HU.out.mono ?_;rintro e w2 ⟨⟨v,rfl,hv⟩,h1,h2⟩;have hv:v=.int .i64 y:=hv;subst hv;have aU:=aa ((fA HO.out hpw h2).alloc (.cells #[.int .i64 y] 3));have HN:=aa (qU w2 (.int .i64 y) 3);have HB2:=aa ((HB.out.trans h2).trans (But.of p (aD w2 (.cells #[.int .i64 y] 3))));have az:=aa (h1.on (aD w2 (.cells #[.int .i64 y] 3)));have bY:Hid (w.heap.size<=w2.heap.size):=aa (Nat.le_trans HB.out.size h2.size);clear h1 h2 HU HO HS HB;obtain ⟨i0,hi,hz0,hz1,hz2⟩:=info_parts qV;go_wp2_with (first|(at_builtin;refine iN rfl _ _ 29 rfl w.heap.size 3 i0 _ 1 8 Tryz.underlying29 hi hz0 hz1 hz2 rfl (by decide) _ _ _ rfl aU.out (some ⟨w2.heap.size,0,none⟩) 1 1 [.int .i64 y] rfl ?c6 ?c0 ?c1 ?c2 ?c3 ?c4 ?c5 ?_))
     case c6=>intro h;cases h
     case c0=>rfl
     case c1=>exact fun ad h=>by injection h with h;subst h;exact HN.out
     case c2=>exact fun u hu=>by rw [List.mem_singleton.1 hu];rfl
     case c3=>unfold maxLen;omega
     case c4=>omega
     case c5=>have:=bY.out;simp;omega
     intro v9 w9 aW aP _;have aS:∀q',(Value.slice oT q cT).ownBlock=some q'->w.heap.size<=q':=fun q' hq'=>(aU.out.lt q' hq').1;have bP:=aa (az.out.grown aP (fun q' hq'=>Nat.lt_of_lt_of_le hpw (aS q' hq')));have cG:=aa (But.grown (p:=p) HB2.out aP aS);have dF:Hid (w9.ownsRow w.heap.size 3 1 v9 (q+1) ((l++[y]).map fun z=>Value.int .i64 z)):=aa (by rw [List.map_append];exact aW);have hsl:=fU aW;clear aW aP aS aU HN HB2 az;obtain ⟨oN,cN,rfl⟩:=hsl;go_wp2;go_roundw
     case rel=>exact ⟨q+1,l++[y],j2,by omega,by go_num,by simp [hl],⟨_,_,rfl⟩,HZ,bP,cG,dF⟩
     case measure=>simp [RowKit.intOf];omega
   ·obtain rfl:q=m:=by omega
    have HZ:Hid (R=.ok (l,jq)):=aa (by rw [HP.out,Nat.sub_self];exact mU l _ jq);have HV:Hid (jN w.heap.size l (.slice oT q cT) wr):=aa (vZ (l:=l) (by rw [hl];exact HO.out) (by omega));clear HP HO;go_wp2;go_ret;rw [HZ.out];exact ⟨⟨_,rfl,HV.out⟩,HS.out,HB.out⟩
namespace ai
structure LI (w0 w:World) (p:Nat) (s:ByteArray) (c:Nat->Value) (en k i n T:Nat) (cs:Array Value) (u:World):Prop where
 rs:RS w0 p s c en k i n u
 but:But p w u
 res:u.heap[w.heap.size]?=some (.cells cs T (0,0))
 pw:p<w.heap.size
section
variable {w0 w u:World} {p:Nat} {s:ByteArray} {c:Nat->Value} {en k i n T:Nat} {cs:Array Value}
theorem LI.start (h:RS w0 p s c en k i n w) (T:Nat) (cs:Array Value):LI w0 w p s c en k i n T cs (w.alloc (.cells cs T)) :=
 ⟨h.on (aD w _),But.of p (aD w _),fB w _ rfl,h.lt⟩
theorem LI.call {i2 n2:Nat} {u2:World} (h:LI w0 w p s c en k i n T cs u) (h1:RS w0 p s c en k i2 n2 u2) (h2:But p u u2):LI w0 w p s c en k i2 n2 T cs u2 :=
 ⟨h1,h.but.trans h2,by rw [h2.block _ (Array.getElem?_eq_some_iff.1 h.res).1 (fun e=>by injection e with e;have:=h.pw;omega)];exact h.res,h.pw⟩
theorem LI.set (h:LI w0 w p s c en k i n T cs u) (j:Nat) (v:Value):LI w0 w p s c en k i n T (cs.setIfInBounds j v) (u.setCell ⟨w.heap.size,j,none⟩ v) :=
 ⟨h.rs.set (by have:=h.pw;omega) (by have:=h.rs.base;have:=h.pw;omega) _ _,fe h.but (Nat.le_refl _) _ _,heap_setCell_same u _ j _ _ v h.res,h.pw⟩
theorem LI.cell (h:LI w0 w p s c en k i n T cs u) (j:Nat) (v:Value) (hv:cs[j]?=some v):u.cell? ⟨w.heap.size,j,none⟩=some v:=by
 unfold World.cell?;rw [h.res];exact hv
theorem LI.ag (h:LI w0 w p s c en k i n T cs u) (j:Nat):u.frozen? ⟨w.heap.size,j,none⟩=false:=by unfold World.frozen?;rw [h.res];simp
theorem RS.pos (h:RS w0 p s c en k i n w):w0.heap.size<=w.heap.size:=h.below.size
theorem LI.lt (h:LI w0 w p s c en k i n T cs u):w.heap.size+1<=u.heap.size:=(Array.getElem?_eq_some_iff.1 h.res).1
theorem LI.kept {u2:World} (h:LI w0 w p s c en k i n T cs u) (h2:But p u u2):∀k,Since (w.heap.size+1) u none k->Since (w.heap.size+1) u2 none k/\u2.heap[k]?=u.heap[k]?:=mf (by have:=h.pw;omega) h2
theorem ax (w u:World) (j:Nat) (v:Value):∀k,Since (w.heap.size+1) u none k->Since (w.heap.size+1) (u.setCell ⟨w.heap.size,j,none⟩ v) none k/\(u.setCell ⟨w.heap.size,j,none⟩ v).heap[k]?=u.heap[k]?:=fun k hk =>
 ⟨⟨hk.1,by simpa using hk.2.1,by simp⟩,Below.heap_setCell _ _ _ _ (by have:=hk.1;show k≠w.heap.size;omega)⟩
theorem lY {B:Nat} (w u:World) (hB:w.heap.size+1<=B):∀k,Since B u none k->Since (w.heap.size+1) u none k/\u.heap[k]?=u.heap[k]?:=fun k hk=>⟨⟨Nat.le_trans hB hk.1,hk.2.1,hk.2.2⟩,rfl⟩
theorem mb (w u:World):∀k,Since (w.heap.size+1) u none k->Since w.heap.size u none k/\u.heap[k]?=u.heap[k]?:=fun k hk=>⟨⟨by have:=hk.1;omega,hk.2.1,hk.2.2⟩,rfl⟩
end
def iz (s:ByteArray) (en i:Nat):R iL:=bd (oh s en i) fun f j=>bd (ru s en j) fun a m=>if f=true then bd (ru s en m) fun b q=>.ok (⟨a,b,true⟩,q) else .ok (⟨a,0,false⟩,m)
def jw (s:ByteArray) (en i:Nat):R lM:=bd (pK s en i) fun t j=>bd (nx s en j) fun x m=>if x<=3 then bd (ru s en m) fun b q=>.ok (⟨t,x,b⟩,q) else .error 50
def jv (s:ByteArray) (en i:Nat):R lK:=bd (pK s en i) fun t j=>bd (pK s en j) fun x m=>bd (must s en 0 m) fun _ q=>bd (ru s en q) fun b e=>.ok (⟨t,x,b⟩,e)
def xU {α:Type} (C:α->List Value):EK α:=fun _ _ x vs=>vs=C x
def cH:EK iL:=xU fun x=>[.int .i64 x.min,.int .i64 x.max,.bool x.has]
def iY:EK lM:=xU fun x=>[.string x.name,.int .i64 x.kind,.int .i64 x.index]
def lX (s:ByteArray) (en i:Nat):R iL:=bd (must s en 112 i) fun _ j=>iz s en j
def lW (s:ByteArray) (en i:Nat):R Int:=bd (ru s en i) fun a j=>.ok (a,j)
def gW:EK Int:=xU fun x=>[.int .i64 x,.slice none 0 0,.slice none 0 0]
def ku (s:ByteArray) (en i:Nat):R FT:=bd (must s en 96 i) fun _ j=>bd (rP s en j) fun a m=>bd (rP s en m) fun b q=>.ok (⟨a,b⟩,q)
def gL:EK FT:=fun w S x vs=>∃a b,vs = [a,b]/\aH w S a x.params/\aH w S b x.results
def iX:EK lK:=xU fun x=>[.string x.mod,.string x.name,.int .i64 x.type]
end ai
section
variable (w0:World) (p:Nat) (s:ByteArray) (c:Nat->Value) (en k i n:Nat) (w:World) (h:RS w0 p s c en k i n w)
include h
theorem FW:Calls Tryz.prog 45 #[.pointer (some ⟨p,0,none⟩)] w (bw w0 p s c en k n (BO cH w.heap.size) w (iz s en i)):=by
 have HS:=aa (LI.start h 71 #[.int .i64 0,.int .i64 0,.bool false]);clear h;obtain ⟨R,hR⟩:∃R,R=iz s en i:=⟨_,rfl⟩;rw [<- hR];have HR:=aa hR;clear hR;go_enter Tryz.func45,Tryz.ntmps45;have hc0:=G3 w0 p s c en k i n (w.alloc (.cells #[.int .i64 0,.int .i64 0,.bool false] 71)) HS.out.rs;have aJ:=aa hc0;clear hc0;go_wp2_with fail;refine aJ.out.mono ?_;intro e u0 hr;cases hx0:oh s en i with
 | error z =>
  rw [hx0] at hr;obtain ⟨rfl,hb⟩:=hr;have bA:=aa hx0;have hz:R=.error z:=by rw [HR.out];unfold iz;simp only [aM,bg,bA.out,if_true,Bool.false_eq_true,if_false]
  exact ⟨rfl,by rw [hz];exact ⟨rfl,hb⟩⟩
 | ok v =>
  obtain ⟨z0,q0⟩:=v;rw [hx0] at hr;obtain ⟨⟨v0,rfl,hv0⟩,h1,h2⟩:=hr;have hv0:v0=.bool z0:=hv0;subst hv0;have bA:=aa hx0;have ak:=aa (HS.out.call h1 h2);clear h1 h2 hx0 aJ HS;have x2:=ak.out.cell 2 _ rfl;have y2:=ak.out.ag 2;have Eo:Hid (LI w0 w p s c en k q0 n 71 #[.int .i64 0,.int .i64 0,.bool z0] (u0.setCell ⟨w.heap.size,2,none⟩ (.bool z0))):=aa (ak.out.set 2 _);have hc1:=gh w0 p s c en k q0 n (u0.setCell ⟨w.heap.size,2,none⟩ (.bool z0)) Eo.out.rs;have aZ:=aa hc1;clear hc1;go_wp2_with fail;refine aZ.out.mono ?_;intro e u1 hr;cases hx1:ru s en q0 with
  | error z =>
   rw [hx1] at hr;obtain ⟨rfl,hb⟩:=hr;have bZ:=aa hx1;have hz:R=.error z:=by rw [HR.out];unfold iz;simp only [aM,bg,bA.out,bZ.out,if_true,Bool.false_eq_true,if_false]
   exact ⟨rfl,by rw [hz];exact ⟨rfl,hb⟩⟩
  | ok v =>
   obtain ⟨z1,q1⟩:=v;rw [hx1] at hr;obtain ⟨⟨v1,rfl,hv1⟩,h1,h2⟩:=hr;have hv1:v1=.int .i64 z1:=hv1;subst hv1;have bZ:=aa hx1;have aB:=aa (Eo.out.call h1 h2);clear h1 h2 hx1 aZ Eo;have x0:=aB.out.cell 0 _ rfl;have y0:=aB.out.ag 0;have iU:Hid (LI w0 w p s c en k q1 n 71 #[.int .i64 z1,.int .i64 0,.bool z0] (u1.setCell ⟨w.heap.size,0,none⟩ (.int .i64 z1))):=aa (aB.out.set 0 _);have x2:=iU.out.cell 2 _ rfl;have y2:=iU.out.ag 2;cases z0 with
   | true =>
    have hc2:=gh w0 p s c en k q1 n (u1.setCell ⟨w.heap.size,0,none⟩ (.int .i64 z1)) iU.out.rs;have cz:=aa hc2;clear hc2;go_wp2_with fail;refine cz.out.mono ?_;intro e u2 hr;cases hx2:ru s en q1 with
    | error z =>
     rw [hx2] at hr;obtain ⟨rfl,hb⟩:=hr;have fK:=aa hx2;have hz:R=.error z:=by rw [HR.out];unfold iz;simp only [aM,bg,bA.out,bZ.out,fK.out,if_true,Bool.false_eq_true,if_false]
     exact ⟨rfl,by rw [hz];exact ⟨rfl,hb⟩⟩
    | ok v =>
     obtain ⟨z2,q2⟩:=v;rw [hx2] at hr;obtain ⟨⟨v2,rfl,hv2⟩,h1,h2⟩:=hr;have hv2:v2=.int .i64 z2:=hv2;subst hv2;have fK:=aa hx2;have az:=aa (iU.out.call h1 h2);clear h1 h2 hx2 cz iU;have x1:=az.out.cell 1 _ rfl;have y1:=az.out.ag 1;have nW:Hid (LI w0 w p s c en k q2 n 71 #[.int .i64 z1,.int .i64 z2,.bool true] (u2.setCell ⟨w.heap.size,1,none⟩ (.int .i64 z2))):=aa (az.out.set 1 _);have x0:=nW.out.cell 0 _ rfl;have y0:=nW.out.ag 0;have x1:=nW.out.cell 1 _ rfl;have y1:=nW.out.ag 1;have x2:=nW.out.cell 2 _ rfl;have y2:=nW.out.ag 2;go_wp2;have ay:Hid (LI w0 w p s c en k q2 n 71 #[.int .i64 z1,.int .i64 z2,.bool true] ((u2.setCell ⟨w.heap.size,1,none⟩ (.int .i64 z2)).setCell ⟨w.heap.size,0,none⟩ (.int .i64 z1))):=aa (nW.out.set 0 _);have aC:Hid (LI w0 w p s c en k q2 n 71 #[.int .i64 z1,.int .i64 z2,.bool true] (((u2.setCell ⟨w.heap.size,1,none⟩ (.int .i64 z2)).setCell ⟨w.heap.size,0,none⟩ (.int .i64 z1)).setCell ⟨w.heap.size,1,none⟩ (.int .i64 z2))):=aa (ay.out.set 1 _);have cf:Hid (LI w0 w p s c en k q2 n 71 #[.int .i64 z1,.int .i64 z2,.bool true] ((((u2.setCell ⟨w.heap.size,1,none⟩ (.int .i64 z2)).setCell ⟨w.heap.size,0,none⟩ (.int .i64 z1)).setCell ⟨w.heap.size,1,none⟩ (.int .i64 z2)).setCell ⟨w.heap.size,2,none⟩ (.bool true))):=aa (aC.out.set 2 _);have t0:=cf.out.cell 0 _ rfl;have t1:=cf.out.cell 1 _ rfl;have t2:=cf.out.cell 2 _ rfl;have hz:R=.ok (⟨z1,z2,true⟩,q2):=by rw [HR.out];unfold iz;simp only [aM,bg,bA.out,bZ.out,fK.out,if_true,Bool.false_eq_true,if_false]
     rw [hz];exact bodyPost_ret (v:=.agg #[.int .i64 z1,.int .i64 z2,.bool true]) (by simp [results,Tryz.results45,go_sem,t0,t1,t2]) rfl ⟨⟨_,rfl,rfl,rfl⟩,cf.out.rs,cf.out.but⟩
   | false =>
    have x0:=iU.out.cell 0 _ rfl;have y0:=iU.out.ag 0;have x1:=iU.out.cell 1 _ rfl;have y1:=iU.out.ag 1;have x2:=iU.out.cell 2 _ rfl;have y2:=iU.out.ag 2;go_wp2;have ay:Hid (LI w0 w p s c en k q1 n 71 #[.int .i64 z1,.int .i64 0,.bool false] ((u1.setCell ⟨w.heap.size,0,none⟩ (.int .i64 z1)).setCell ⟨w.heap.size,0,none⟩ (.int .i64 z1))):=aa (iU.out.set 0 _);have aC:Hid (LI w0 w p s c en k q1 n 71 #[.int .i64 z1,.int .i64 0,.bool false] (((u1.setCell ⟨w.heap.size,0,none⟩ (.int .i64 z1)).setCell ⟨w.heap.size,0,none⟩ (.int .i64 z1)).setCell ⟨w.heap.size,1,none⟩ (.int .i64 0))):=aa (ay.out.set 1 _);have cf:Hid (LI w0 w p s c en k q1 n 71 #[.int .i64 z1,.int .i64 0,.bool false] ((((u1.setCell ⟨w.heap.size,0,none⟩ (.int .i64 z1)).setCell ⟨w.heap.size,0,none⟩ (.int .i64 z1)).setCell ⟨w.heap.size,1,none⟩ (.int .i64 0)).setCell ⟨w.heap.size,2,none⟩ (.bool false))):=aa (aC.out.set 2 _);have t0:=cf.out.cell 0 _ rfl;have t1:=cf.out.cell 1 _ rfl;have t2:=cf.out.cell 2 _ rfl;have hz:R=.ok (⟨z1,0,false⟩,q1):=by rw [HR.out];unfold iz;simp only [aM,bg,bA.out,bZ.out,if_true,Bool.false_eq_true,if_false]
    rw [hz];exact bodyPost_ret (v:=.agg #[.int .i64 z1,.int .i64 0,.bool false]) (by simp [results,Tryz.results45,go_sem,t0,t1,t2]) rfl ⟨⟨_,rfl,rfl,rfl⟩,cf.out.rs,cf.out.but⟩
theorem NZ:Calls Tryz.prog 38 #[.pointer (some ⟨p,0,none⟩)] w (bw w0 p s c en k n (JY gL w.heap.size) w (ku s en i)):=by
 have HS:=aa (LI.start h 63 #[.slice none 0 0,.slice none 0 0]);clear h;obtain ⟨R,hR⟩:∃R,R=ku s en i:=⟨_,rfl⟩;rw [<- hR];have HR:=aa hR;clear hR;go_enter Tryz.func38,Tryz.ntmps38;have hc0:=oo w0 p s c en k i n (w.alloc (.cells #[.slice none 0 0,.slice none 0 0] 63)) HS.out.rs 96;have aJ:=aa hc0;clear hc0;go_wp2_with fail;refine aJ.out.mono ?_;intro e u0 hr;cases hx0:must s en 96 i with
 | error z =>
  rw [hx0] at hr;obtain ⟨rfl,hb⟩:=hr;have bA:=aa hx0;have hz:R=.error z:=by rw [HR.out];unfold ku;simp only [aM,bg,bA.out,if_true,Bool.false_eq_true,if_false]
  exact ⟨rfl,by rw [hz];exact ⟨rfl,hb⟩⟩
 | ok v =>
  obtain ⟨z0,q0⟩:=v;rw [hx0] at hr;obtain ⟨⟨v0,rfl,hv0⟩,h1,h2⟩:=hr;have hv0:v0=.tuple #[]:=hv0;subst hv0;have bA:=aa hx0;have ak:=aa (HS.out.call h1 h2);clear h1 h2 hx0 aJ HS;have hc1:=JZ w0 p s c en k q0 n u0 ak.out.rs;have aZ:=aa hc1;clear hc1;go_wp2_with fail;refine aZ.out.mono ?_;intro e u1 hr;cases hx1:rP s en q0 with
  | error z =>
   rw [hx1] at hr;obtain ⟨rfl,hb⟩:=hr;have bZ:=aa hx1;have hz:R=.error z:=by rw [HR.out];unfold ku;simp only [aM,bg,bA.out,bZ.out,if_true,Bool.false_eq_true,if_false]
   exact ⟨rfl,by rw [hz];exact ⟨rfl,hb⟩⟩
  | ok v =>
   obtain ⟨z1,q1⟩:=v;rw [hx1] at hr;obtain ⟨⟨v1,rfl,hv1⟩,h1,h2⟩:=hr;have hv1:aH u1 (Since u0.heap.size u1 none) v1 z1:=hv1;have kN:=aa (hv1.keep (lY w u1 (by simpa using ak.out.lt)));obtain ⟨o1,k1,rfl⟩:=Row.len hv1;clear hv1;have bZ:=aa hx1;have aB:=aa (ak.out.call h1 h2);clear h1 h2 hx1 aZ ak;have x0:=aB.out.cell 0 _ rfl;have y0:=aB.out.ag 0;have iU:Hid (LI w0 w p s c en k q1 n 63 #[.slice o1 z1.length k1,.slice none 0 0] (u1.setCell ⟨w.heap.size,0,none⟩ (.slice o1 z1.length k1))):=aa (aB.out.set 0 _);have J0:=aa (aH.keep (ax w u1 0 (.slice o1 z1.length k1)) kN.out);clear kN;have hc2:=JZ w0 p s c en k q1 n (u1.setCell ⟨w.heap.size,0,none⟩ (.slice o1 z1.length k1)) iU.out.rs;have cz:=aa hc2;clear hc2;go_wp2_with fail;refine cz.out.mono ?_;intro e u2 hr;cases hx2:rP s en q1 with
   | error z =>
    rw [hx2] at hr;obtain ⟨rfl,hb⟩:=hr;have fK:=aa hx2;have hz:R=.error z:=by rw [HR.out];unfold ku;simp only [aM,bg,bA.out,bZ.out,fK.out,if_true,Bool.false_eq_true,if_false]
    exact ⟨rfl,by rw [hz];exact ⟨rfl,hb⟩⟩
   | ok v =>
    obtain ⟨z2,q2⟩:=v;rw [hx2] at hr;obtain ⟨⟨v2,rfl,hv2⟩,h1,h2⟩:=hr;have J1:=aa (aH.keep (iU.out.kept h2) J0.out);clear J0;have hv2:aH u2 (Since (u1.setCell ⟨w.heap.size,0,none⟩ (.slice o1 z1.length k1)).heap.size u2 none) v2 z2:=hv2;have zx:=aa (hv2.keep (lY w u2 (by simpa using iU.out.lt)));obtain ⟨o2,k2,rfl⟩:=Row.len hv2;clear hv2;have fK:=aa hx2;have az:=aa (iU.out.call h1 h2);clear h1 h2 hx2 cz iU;have x1:=az.out.cell 1 _ rfl;have y1:=az.out.ag 1;have nW:Hid (LI w0 w p s c en k q2 n 63 #[.slice o1 z1.length k1,.slice o2 z2.length k2] (u2.setCell ⟨w.heap.size,1,none⟩ (.slice o2 z2.length k2))):=aa (az.out.set 1 _);have J2:=aa (aH.keep (ax w u2 1 (.slice o2 z2.length k2)) J1.out);clear J1;have J3:=aa (aH.keep (ax w u2 1 (.slice o2 z2.length k2)) zx.out);clear zx;have x0:=nW.out.cell 0 _ rfl;have y0:=nW.out.ag 0;have x1:=nW.out.cell 1 _ rfl;have y1:=nW.out.ag 1;go_wp2;have ay:Hid (LI w0 w p s c en k q2 n 63 #[.slice o1 z1.length k1,.slice o2 z2.length k2] ((u2.setCell ⟨w.heap.size,1,none⟩ (.slice o2 z2.length k2)).setCell ⟨w.heap.size,0,none⟩ (.slice o1 z1.length k1))):=aa (nW.out.set 0 _);have J4:=aa (aH.keep (ax w (u2.setCell ⟨w.heap.size,1,none⟩ (.slice o2 z2.length k2)) 0 (.slice o1 z1.length k1)) J2.out);clear J2;have J5:=aa (aH.keep (ax w (u2.setCell ⟨w.heap.size,1,none⟩ (.slice o2 z2.length k2)) 0 (.slice o1 z1.length k1)) J3.out);clear J3;have aC:Hid (LI w0 w p s c en k q2 n 63 #[.slice o1 z1.length k1,.slice o2 z2.length k2] (((u2.setCell ⟨w.heap.size,1,none⟩ (.slice o2 z2.length k2)).setCell ⟨w.heap.size,0,none⟩ (.slice o1 z1.length k1)).setCell ⟨w.heap.size,1,none⟩ (.slice o2 z2.length k2))):=aa (ay.out.set 1 _);have Tj:=aa (aH.keep (ax w ((u2.setCell ⟨w.heap.size,1,none⟩ (.slice o2 z2.length k2)).setCell ⟨w.heap.size,0,none⟩ (.slice o1 z1.length k1)) 1 (.slice o2 z2.length k2)) J4.out);clear J4;have Tk:=aa (aH.keep (ax w ((u2.setCell ⟨w.heap.size,1,none⟩ (.slice o2 z2.length k2)).setCell ⟨w.heap.size,0,none⟩ (.slice o1 z1.length k1)) 1 (.slice o2 z2.length k2)) J5.out);clear J5;have t0:=aC.out.cell 0 _ rfl;have t1:=aC.out.cell 1 _ rfl;have hz:R=.ok (⟨z1,z2⟩,q2):=by rw [HR.out];unfold ku;simp only [aM,bg,bA.out,bZ.out,fK.out,if_true,Bool.false_eq_true,if_false]
    rw [hz];exact bodyPost_ret (v:=.agg #[.slice o1 z1.length k1,.slice o2 z2.length k2]) (by simp [results,Tryz.results38,go_sem,t0,t1]) rfl ⟨⟨_,rfl,_,_,_,_,_,_,rfl,_,_,rfl,(aH.keep (mb w _) Tj.out),(aH.keep (mb w _) Tk.out)⟩,aC.out.rs,aC.out.but⟩
theorem Ol (hU:∀u,Below w0.heap.size w0 u->iW u):Calls Tryz.prog 40 #[.pointer (some ⟨p,0,none⟩)] w (bw w0 p s c en k n (J6 iX w.heap.size) w (jv s en i)):=by
 have HS:=aa (LI.start h 65 #[.string ByteArray.empty,.string ByteArray.empty,.int .i64 0]);have HU:=aa hU;clear h hU;obtain ⟨R,hR⟩:∃R,R=jv s en i:=⟨_,rfl⟩;rw [<- hR];have HR:=aa hR;clear hR;go_enter Tryz.func40,Tryz.ntmps40;have hc0:=Du w0 p s c en k i n (w.alloc (.cells #[.string ByteArray.empty,.string ByteArray.empty,.int .i64 0] 65)) HS.out.rs HU.out;have aJ:=aa hc0;clear hc0;go_wp2_with fail;refine aJ.out.mono ?_;intro e u0 hr;cases hx0:pK s en i with
 | error z =>
  rw [hx0] at hr;obtain ⟨rfl,hb⟩:=hr;have bA:=aa hx0;have hz:R=.error z:=by rw [HR.out];unfold jv;simp only [aM,bg,bA.out,if_true,Bool.false_eq_true,if_false]
  exact ⟨rfl,by rw [hz];exact ⟨rfl,hb⟩⟩
 | ok v =>
  obtain ⟨z0,q0⟩:=v;rw [hx0] at hr;obtain ⟨⟨v0,rfl,hv0⟩,h1,h2⟩:=hr;have hv0:v0=.string z0:=hv0;subst hv0;have bA:=aa hx0;have ak:=aa (HS.out.call h1 h2);clear h1 h2 hx0 aJ HS;have x0:=ak.out.cell 0 _ rfl;have y0:=ak.out.ag 0;have pQ:Hid (LI w0 w p s c en k q0 n 65 #[.string z0,.string ByteArray.empty,.int .i64 0] (u0.setCell ⟨w.heap.size,0,none⟩ (.string z0))):=aa (ak.out.set 0 _);have hc1:=Du w0 p s c en k q0 n (u0.setCell ⟨w.heap.size,0,none⟩ (.string z0)) pQ.out.rs HU.out;have aZ:=aa hc1;clear hc1;go_wp2_with fail;refine aZ.out.mono ?_;intro e u1 hr;cases hx1:pK s en q0 with
  | error z =>
   rw [hx1] at hr;obtain ⟨rfl,hb⟩:=hr;have bZ:=aa hx1;have hz:R=.error z:=by rw [HR.out];unfold jv;simp only [aM,bg,bA.out,bZ.out,if_true,Bool.false_eq_true,if_false]
   exact ⟨rfl,by rw [hz];exact ⟨rfl,hb⟩⟩
  | ok v =>
   obtain ⟨z1,q1⟩:=v;rw [hx1] at hr;obtain ⟨⟨v1,rfl,hv1⟩,h1,h2⟩:=hr;have hv1:v1=.string z1:=hv1;subst hv1;have bZ:=aa hx1;have aB:=aa (pQ.out.call h1 h2);clear h1 h2 hx1 aZ pQ;have x1:=aB.out.cell 1 _ rfl;have y1:=aB.out.ag 1;have mK:Hid (LI w0 w p s c en k q1 n 65 #[.string z0,.string z1,.int .i64 0] (u1.setCell ⟨w.heap.size,1,none⟩ (.string z1))):=aa (aB.out.set 1 _);have hc2:=oo w0 p s c en k q1 n (u1.setCell ⟨w.heap.size,1,none⟩ (.string z1)) mK.out.rs 0;have cz:=aa hc2;clear hc2;go_wp2_with fail;refine cz.out.mono ?_;intro e u2 hr;cases hx2:must s en 0 q1 with
   | error z =>
    rw [hx2] at hr;obtain ⟨rfl,hb⟩:=hr;have fK:=aa hx2;have hz:R=.error z:=by rw [HR.out];unfold jv;simp only [aM,bg,bA.out,bZ.out,fK.out,if_true,Bool.false_eq_true,if_false]
    exact ⟨rfl,by rw [hz];exact ⟨rfl,hb⟩⟩
   | ok v =>
    obtain ⟨z2,q2⟩:=v;rw [hx2] at hr;obtain ⟨⟨v2,rfl,hv2⟩,h1,h2⟩:=hr;have hv2:v2=.tuple #[]:=hv2;subst hv2;have fK:=aa hx2;have az:=aa (mK.out.call h1 h2);clear h1 h2 hx2 cz mK;have hc3:=gh w0 p s c en k q2 n u2 az.out.rs;have xR:=aa hc3;clear hc3;go_wp2_with fail;refine xR.out.mono ?_;intro e u3 hr;cases hx3:ru s en q2 with
    | error z =>
     rw [hx3] at hr;obtain ⟨rfl,hb⟩:=hr;have yD:=aa hx3;have hz:R=.error z:=by rw [HR.out];unfold jv;simp only [aM,bg,bA.out,bZ.out,fK.out,yD.out,if_true,Bool.false_eq_true,if_false]
     exact ⟨rfl,by rw [hz];exact ⟨rfl,hb⟩⟩
    | ok v =>
     obtain ⟨z3,q3⟩:=v;rw [hx3] at hr;obtain ⟨⟨v3,rfl,jS⟩,h1,h2⟩:=hr;have jS:v3=.int .i64 z3:=jS;subst jS;have yD:=aa hx3;have fE:=aa (az.out.call h1 h2);clear h1 h2 hx3 xR az;have x2:=fE.out.cell 2 _ rfl;have y2:=fE.out.ag 2;have vN:Hid (LI w0 w p s c en k q3 n 65 #[.string z0,.string z1,.int .i64 z3] (u3.setCell ⟨w.heap.size,2,none⟩ (.int .i64 z3))):=aa (fE.out.set 2 _);have x0:=vN.out.cell 0 _ rfl;have y0:=vN.out.ag 0;have x1:=vN.out.cell 1 _ rfl;have y1:=vN.out.ag 1;have x2:=vN.out.cell 2 _ rfl;have y2:=vN.out.ag 2;go_wp2;have ay:Hid (LI w0 w p s c en k q3 n 65 #[.string z0,.string z1,.int .i64 z3] ((u3.setCell ⟨w.heap.size,2,none⟩ (.int .i64 z3)).setCell ⟨w.heap.size,0,none⟩ (.string z0))):=aa (vN.out.set 0 _);have aC:Hid (LI w0 w p s c en k q3 n 65 #[.string z0,.string z1,.int .i64 z3] (((u3.setCell ⟨w.heap.size,2,none⟩ (.int .i64 z3)).setCell ⟨w.heap.size,0,none⟩ (.string z0)).setCell ⟨w.heap.size,1,none⟩ (.string z1))):=aa (ay.out.set 1 _);have cf:Hid (LI w0 w p s c en k q3 n 65 #[.string z0,.string z1,.int .i64 z3] ((((u3.setCell ⟨w.heap.size,2,none⟩ (.int .i64 z3)).setCell ⟨w.heap.size,0,none⟩ (.string z0)).setCell ⟨w.heap.size,1,none⟩ (.string z1)).setCell ⟨w.heap.size,2,none⟩ (.int .i64 z3))):=aa (aC.out.set 2 _);have t0:=cf.out.cell 0 _ rfl;have t1:=cf.out.cell 1 _ rfl;have t2:=cf.out.cell 2 _ rfl;have hz:R=.ok (⟨z0,z1,z3⟩,q3):=by rw [HR.out];unfold jv;simp only [aM,bg,bA.out,bZ.out,fK.out,yD.out,if_true,Bool.false_eq_true,if_false]
     rw [hz];exact bodyPost_ret (v:=.agg #[.string z0,.string z1,.int .i64 z3]) (by simp [results,Tryz.results40,go_sem,t0,t1,t2]) rfl ⟨⟨_,rfl,rfl,rfl⟩,cf.out.rs,cf.out.but⟩
theorem Oo (hU:∀u,Below w0.heap.size w0 u->iW u):Calls Tryz.prog 49 #[.pointer (some ⟨p,0,none⟩)] w (bw w0 p s c en k n (J7 iY w.heap.size) w (jw s en i)):=by
 have HS:=aa (LI.start h 78 #[.string ByteArray.empty,.int .i64 0,.int .i64 0]);have HU:=aa hU;clear h hU;obtain ⟨R,hR⟩:∃R,R=jw s en i:=⟨_,rfl⟩;rw [<- hR];have HR:=aa hR;clear hR;go_enter Tryz.func49,Tryz.ntmps49;have hc0:=Du w0 p s c en k i n (w.alloc (.cells #[.string ByteArray.empty,.int .i64 0,.int .i64 0] 78)) HS.out.rs HU.out;have aJ:=aa hc0;clear hc0;go_wp2_with fail;refine aJ.out.mono ?_;intro e u0 hr;cases hx0:pK s en i with
 | error z =>
  rw [hx0] at hr;obtain ⟨rfl,hb⟩:=hr;have bA:=aa hx0;have hz:R=.error z:=by rw [HR.out];unfold jw;simp only [aM,bg,bA.out,if_true,Bool.false_eq_true,if_false]
  exact ⟨rfl,by rw [hz];exact ⟨rfl,hb⟩⟩
 | ok v =>
  obtain ⟨z0,q0⟩:=v;rw [hx0] at hr;obtain ⟨⟨v0,rfl,hv0⟩,h1,h2⟩:=hr;have hv0:v0=.string z0:=hv0;subst hv0;have bA:=aa hx0;have ak:=aa (HS.out.call h1 h2);clear h1 h2 hx0 aJ HS;have x0:=ak.out.cell 0 _ rfl;have y0:=ak.out.ag 0;have pQ:Hid (LI w0 w p s c en k q0 n 78 #[.string z0,.int .i64 0,.int .i64 0] (u0.setCell ⟨w.heap.size,0,none⟩ (.string z0))):=aa (ak.out.set 0 _);have hc1:=rf w0 p s c en k q0 n (u0.setCell ⟨w.heap.size,0,none⟩ (.string z0)) pQ.out.rs;have aZ:=aa hc1;clear hc1;go_wp2_with fail;refine aZ.out.mono ?_;intro e u1 hr;cases hx1:nx s en q0 with
  | error z =>
   rw [hx1] at hr;obtain ⟨rfl,hb⟩:=hr;have bZ:=aa hx1;have hz:R=.error z:=by rw [HR.out];unfold jw;simp only [aM,bg,bA.out,bZ.out,if_true,Bool.false_eq_true,if_false]
   exact ⟨rfl,by rw [hz];exact ⟨rfl,hb⟩⟩
  | ok v =>
   obtain ⟨z1,q1⟩:=v;rw [hx1] at hr;obtain ⟨⟨v1,rfl,hv1⟩,h1,h2⟩:=hr;have hv1:v1=.int .i64 z1:=hv1;subst hv1;have bZ:=aa hx1;have aB:=aa (pQ.out.call h1 h2);clear h1 h2 hx1 aZ pQ;have x1:=aB.out.cell 1 _ rfl;have y1:=aB.out.ag 1;have mK:Hid (LI w0 w p s c en k q1 n 78 #[.string z0,.int .i64 z1,.int .i64 0] (u1.setCell ⟨w.heap.size,1,none⟩ (.int .i64 z1))):=aa (aB.out.set 1 _);by_cases hb3:z1<=3
   ·have qb:decide (z1<=(3:Int))=true:=decide_eq_true hb3;have BP:Hid ((z1<=3)=True):=aa (eq_true hb3);clear hb3;go_wp2_with fail;refine (bH _ _).mono ?_;rintro e uy ⟨rfl,rfl⟩;have hc2:=gh w0 p s c en k q1 n (u1.setCell ⟨w.heap.size,1,none⟩ (.int .i64 z1)) mK.out.rs;have cz:=aa hc2;clear hc2;go_wp2_with fail;refine cz.out.mono ?_;intro e u2 hr;cases hx2:ru s en q1 with
    | error z =>
     rw [hx2] at hr;obtain ⟨rfl,hb⟩:=hr;have fK:=aa hx2;have hz:R=.error z:=by rw [HR.out];unfold jw;simp only [aM,bg,bA.out,bZ.out,BP.out,fK.out,if_true,Bool.false_eq_true,if_false]
     exact ⟨rfl,by rw [hz];exact ⟨rfl,hb⟩⟩
    | ok v =>
     obtain ⟨z2,q2⟩:=v;rw [hx2] at hr;obtain ⟨⟨v2,rfl,hv2⟩,h1,h2⟩:=hr;have hv2:v2=.int .i64 z2:=hv2;subst hv2;have fK:=aa hx2;have az:=aa (mK.out.call h1 h2);clear h1 h2 hx2 cz mK;have x2:=az.out.cell 2 _ rfl;have y2:=az.out.ag 2;have rT:Hid (LI w0 w p s c en k q2 n 78 #[.string z0,.int .i64 z1,.int .i64 z2] (u2.setCell ⟨w.heap.size,2,none⟩ (.int .i64 z2))):=aa (az.out.set 2 _);have x0:=rT.out.cell 0 _ rfl;have y0:=rT.out.ag 0;have x1:=rT.out.cell 1 _ rfl;have y1:=rT.out.ag 1;have x2:=rT.out.cell 2 _ rfl;have y2:=rT.out.ag 2;go_wp2;have ay:Hid (LI w0 w p s c en k q2 n 78 #[.string z0,.int .i64 z1,.int .i64 z2] ((u2.setCell ⟨w.heap.size,2,none⟩ (.int .i64 z2)).setCell ⟨w.heap.size,0,none⟩ (.string z0))):=aa (rT.out.set 0 _);have aC:Hid (LI w0 w p s c en k q2 n 78 #[.string z0,.int .i64 z1,.int .i64 z2] (((u2.setCell ⟨w.heap.size,2,none⟩ (.int .i64 z2)).setCell ⟨w.heap.size,0,none⟩ (.string z0)).setCell ⟨w.heap.size,1,none⟩ (.int .i64 z1))):=aa (ay.out.set 1 _);have cf:Hid (LI w0 w p s c en k q2 n 78 #[.string z0,.int .i64 z1,.int .i64 z2] ((((u2.setCell ⟨w.heap.size,2,none⟩ (.int .i64 z2)).setCell ⟨w.heap.size,0,none⟩ (.string z0)).setCell ⟨w.heap.size,1,none⟩ (.int .i64 z1)).setCell ⟨w.heap.size,2,none⟩ (.int .i64 z2))):=aa (aC.out.set 2 _);have t0:=cf.out.cell 0 _ rfl;have t1:=cf.out.cell 1 _ rfl;have t2:=cf.out.cell 2 _ rfl;have hz:R=.ok (⟨z0,z1,z2⟩,q2):=by rw [HR.out];unfold jw;simp only [aM,bg,bA.out,bZ.out,BP.out,fK.out,if_true,Bool.false_eq_true,if_false]
     rw [hz];exact bodyPost_ret (v:=.agg #[.string z0,.int .i64 z1,.int .i64 z2]) (by simp [results,Tryz.results49,go_sem,t0,t1,t2]) rfl ⟨⟨_,rfl,rfl,rfl⟩,cf.out.rs,cf.out.but⟩
   ·have qb:decide (z1<=(3:Int))=false:=decide_eq_false hb3;have BP:Hid ((z1<=3)=False):=aa (eq_false hb3);clear hb3;have HB:=aa mK.out.rs.below;go_wp2_with fail;refine (eZ _ _).mono ?_;rintro e uy ⟨rfl,rfl⟩;have hz:R=.error 50:=by rw [HR.out];unfold jw;simp only [aM,bg,bA.out,bZ.out,BP.out,if_true,Bool.false_eq_true,if_false]
    exact ⟨rfl,by rw [hz];exact ⟨rfl,HB.out⟩⟩
theorem N8:Calls Tryz.prog 42 #[.pointer (some ⟨p,0,none⟩)] w (bw w0 p s c en k n (J8 gW w.heap.size) w (lW s en i)):=by
 have HS:=aa (LI.start h 68 #[.int .i64 0,.slice none 0 0,.slice none 0 0]);clear h;obtain ⟨R,hR⟩:∃R,R=lW s en i:=⟨_,rfl⟩;rw [<- hR];have HR:=aa hR;clear hR;go_enter Tryz.func42,Tryz.ntmps42;have hc0:=gh w0 p s c en k i n (w.alloc (.cells #[.int .i64 0,.slice none 0 0,.slice none 0 0] 68)) HS.out.rs;have aJ:=aa hc0;clear hc0;go_wp2_with fail;refine aJ.out.mono ?_;intro e u0 hr;cases hx0:ru s en i with
 | error z =>
  rw [hx0] at hr;obtain ⟨rfl,hb⟩:=hr;have bA:=aa hx0;have hz:R=.error z:=by rw [HR.out];unfold lW;simp only [aM,bg,bA.out,if_true,Bool.false_eq_true,if_false]
  exact ⟨rfl,by rw [hz];exact ⟨rfl,hb⟩⟩
 | ok v =>
  obtain ⟨z0,q0⟩:=v;rw [hx0] at hr;obtain ⟨⟨v0,rfl,hv0⟩,h1,h2⟩:=hr;have hv0:v0=.int .i64 z0:=hv0;subst hv0;have bA:=aa hx0;have ak:=aa (HS.out.call h1 h2);clear h1 h2 hx0 aJ HS;have x0:=ak.out.cell 0 _ rfl;have y0:=ak.out.ag 0;have x1:=ak.out.cell 1 _ rfl;have y1:=ak.out.ag 1;have x2:=ak.out.cell 2 _ rfl;have y2:=ak.out.ag 2;go_wp2;have ay:Hid (LI w0 w p s c en k q0 n 68 #[.int .i64 z0,.slice none 0 0,.slice none 0 0] (u0.setCell ⟨w.heap.size,0,none⟩ (.int .i64 z0))):=aa (ak.out.set 0 _);have aC:Hid (LI w0 w p s c en k q0 n 68 #[.int .i64 z0,.slice none 0 0,.slice none 0 0] ((u0.setCell ⟨w.heap.size,0,none⟩ (.int .i64 z0)).setCell ⟨w.heap.size,1,none⟩ (.slice none 0 0))):=aa (ay.out.set 1 _);have cf:Hid (LI w0 w p s c en k q0 n 68 #[.int .i64 z0,.slice none 0 0,.slice none 0 0] (((u0.setCell ⟨w.heap.size,0,none⟩ (.int .i64 z0)).setCell ⟨w.heap.size,1,none⟩ (.slice none 0 0)).setCell ⟨w.heap.size,2,none⟩ (.slice none 0 0))):=aa (aC.out.set 2 _);have t0:=cf.out.cell 0 _ rfl;have t1:=cf.out.cell 1 _ rfl;have t2:=cf.out.cell 2 _ rfl;have hz:R=.ok (z0,q0):=by rw [HR.out];unfold lW;simp only [aM,bg,bA.out,if_true,Bool.false_eq_true,if_false]
  rw [hz];exact bodyPost_ret (v:=.agg #[.int .i64 z0,.slice none 0 0,.slice none 0 0]) (by simp [results,Tryz.results42,go_sem,t0,t1,t2]) rfl ⟨⟨_,rfl,rfl,rfl⟩,cf.out.rs,cf.out.but⟩
theorem Oa:Calls Tryz.prog 44 #[.pointer (some ⟨p,0,none⟩)] w (bw w0 p s c en k n (BO cH w.heap.size) w (lX s en i)):=by
 have HS:=aa (LI.start h 71 #[.int .i64 0,.int .i64 0,.bool false]);clear h;obtain ⟨R,hR⟩:∃R,R=lX s en i:=⟨_,rfl⟩;rw [<- hR];have HR:=aa hR;clear hR;go_enter Tryz.func44,Tryz.ntmps44;have hc0:=oo w0 p s c en k i n (w.alloc (.cells #[.int .i64 0,.int .i64 0,.bool false] 71)) HS.out.rs 112;have aJ:=aa hc0;clear hc0;go_wp2_with fail;refine aJ.out.mono ?_;intro e u0 hr;cases hx0:must s en 112 i with
 | error z =>
  rw [hx0] at hr;obtain ⟨rfl,hb⟩:=hr;have bA:=aa hx0;have hz:R=.error z:=by rw [HR.out];unfold lX;simp only [aM,bg,bA.out,if_true,Bool.false_eq_true,if_false]
  exact ⟨rfl,by rw [hz];exact ⟨rfl,hb⟩⟩
 | ok v =>
  obtain ⟨z0,q0⟩:=v;rw [hx0] at hr;obtain ⟨⟨v0,rfl,hv0⟩,h1,h2⟩:=hr;have hv0:v0=.tuple #[]:=hv0;subst hv0;have bA:=aa hx0;have ak:=aa (HS.out.call h1 h2);clear h1 h2 hx0 aJ HS;have hc1:=FW w0 p s c en k q0 n u0 ak.out.rs;have aZ:=aa hc1;clear hc1;go_wp2_with fail;refine aZ.out.mono ?_;intro e u1 hr;cases hx1:iz s en q0 with
  | error z =>
   rw [hx1] at hr;obtain ⟨rfl,hb⟩:=hr;have bZ:=aa hx1;have hz:R=.error z:=by rw [HR.out];unfold lX;simp only [aM,bg,bA.out,bZ.out,if_true,Bool.false_eq_true,if_false]
   exact ⟨rfl,by rw [hz];exact ⟨rfl,hb⟩⟩
  | ok v =>
   obtain ⟨z1,q1⟩:=v;rw [hx1] at hr;obtain ⟨⟨v1,rfl,hv1⟩,h1,h2⟩:=hr;have hv1:v1=.agg #[.int .i64 z1.min,.int .i64 z1.max,.bool z1.has]:=hv1.1;subst hv1;have bZ:=aa hx1;have aB:=aa (ak.out.call h1 h2);clear h1 h2 hx1 aZ ak;have x0:=aB.out.cell 0 _ rfl;have y0:=aB.out.ag 0;have x1:=aB.out.cell 1 _ rfl;have y1:=aB.out.ag 1;have x2:=aB.out.cell 2 _ rfl;have y2:=aB.out.ag 2;go_wp2;have ay:Hid (LI w0 w p s c en k q1 n 71 #[.int .i64 z1.min,.int .i64 0,.bool false] (u1.setCell ⟨w.heap.size,0,none⟩ (.int .i64 z1.min))):=aa (aB.out.set 0 _);have aC:Hid (LI w0 w p s c en k q1 n 71 #[.int .i64 z1.min,.int .i64 z1.max,.bool false] ((u1.setCell ⟨w.heap.size,0,none⟩ (.int .i64 z1.min)).setCell ⟨w.heap.size,1,none⟩ (.int .i64 z1.max))):=aa (ay.out.set 1 _);have cf:Hid (LI w0 w p s c en k q1 n 71 #[.int .i64 z1.min,.int .i64 z1.max,.bool z1.has] (((u1.setCell ⟨w.heap.size,0,none⟩ (.int .i64 z1.min)).setCell ⟨w.heap.size,1,none⟩ (.int .i64 z1.max)).setCell ⟨w.heap.size,2,none⟩ (.bool z1.has))):=aa (aC.out.set 2 _);have t0:=cf.out.cell 0 _ rfl;have t1:=cf.out.cell 1 _ rfl;have t2:=cf.out.cell 2 _ rfl;have hz:R=.ok (z1,q1):=by rw [HR.out];unfold lX;simp only [aM,bg,bA.out,bZ.out,if_true,Bool.false_eq_true,if_false]
   rw [hz];exact bodyPost_ret (v:=.agg #[.int .i64 z1.min,.int .i64 z1.max,.bool z1.has]) (by simp [results,Tryz.results44,go_sem,t0,t1,t2]) rfl ⟨⟨_,rfl,rfl,rfl⟩,cf.out.rs,cf.out.but⟩
end
end Go.Proofs.YtegboefdolfdgaaGreatDoor
