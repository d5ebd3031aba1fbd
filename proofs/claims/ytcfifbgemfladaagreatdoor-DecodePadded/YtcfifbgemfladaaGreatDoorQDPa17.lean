/- Texts that the claim needs. -/
import Derived.Test.YtcfifbgemfladaaGreatDoorQDPa16
import Derived.Test.YtcfifbgemfladaaGreatDoorQDPa11
namespace Go.Proofs.YtcfifbgemfladaaGreatDoor
open Go.RowKit au aI Go.Proofs.Tryz
set_option linter.unusedVariables false
set_option linter.unusedSimpArgs false
set_option maxRecDepth 100000
set_option maxHeartbeats 4000000
namespace aI
structure LI (w0 w:AG) (p:Nat) (s:AH) (c:Nat->Value) (en k i n T:Nat) (cs:Array Value) (u:AG):Prop where
 rs:RS w0 p s c en k i n u
 but:But p w u
 res:u.heap[w.heap.size]?=some (.cells cs T (0,0))
 pw:p<w.heap.size
section
variable {w0 w u:AG} {p:Nat} {s:AH} {c:Nat->Value} {en k i n T:Nat} {cs:Array Value}
theorem LI.start (h:RS w0 p s c en k i n w) (T:Nat) (cs:Array Value):LI w0 w p s c en k i n T cs (w.alloc (.cells cs T)) :=
 ⟨h.on (aQ w _),But.of p (aQ w _),mV w _ rfl,h.lt⟩
theorem LI.call {i2 n2:Nat} {u2:AG} (h:LI w0 w p s c en k i n T cs u) (h1:RS w0 p s c en k i2 n2 u2) (h2:But p u u2):LI w0 w p s c en k i2 n2 T cs u2 :=
 ⟨h1,h.but.trans h2,by rw [h2.block _ (gX.1 h.res).1 (λe=>by injection e with e;have:=h.pw;omega)];exact h.res,h.pw⟩
theorem LI.set (h:LI w0 w p s c en k i n T cs u) (j:Nat) (v:Value):LI w0 w p s c en k i n T (cs.setIfInBounds j v) (u.setCell ⟨w.heap.size,j,none⟩ v) :=
 ⟨h.rs.set (by have:=h.pw;omega) (by have:=h.rs.base;have:=h.pw;omega) _ _,mL h.but (aC _) _ _,heap_setCell_same u _ j _ _ v h.res,h.pw⟩
theorem LI.cell (h:LI w0 w p s c en k i n T cs u) (j:Nat) (v:Value) (hv:cs[j]?=some v):u.cell? ⟨w.heap.size,j,none⟩=some v:=by
 unfold World.cell?;rw [h.res];exact hv
theorem LI.bT {d0 d1 d2 d3 d4 d5 d6:Value} (h:LI w0 w p s c en k i n T #[d0,d1,d2,d3,d4,d5,d6] u):u.cell? ⟨w.heap.size,0,none⟩=some d0/\u.cell? ⟨w.heap.size,1,none⟩=some d1/\u.cell? ⟨w.heap.size,2,none⟩=some d2/\u.cell? ⟨w.heap.size,3,none⟩=some d3/\u.cell? ⟨w.heap.size,4,none⟩=some d4/\u.cell? ⟨w.heap.size,5,none⟩=some d5/\u.cell? ⟨w.heap.size,6,none⟩=some d6:=⟨h.cell 0 _ rfl,h.cell 1 _ rfl,h.cell 2 _ rfl,h.cell 3 _ rfl,h.cell 4 _ rfl,h.cell 5 _ rfl,h.cell 6 _ rfl⟩
theorem LI.ax (h:LI w0 w p s c en k i n T cs u) (j:Nat):u.frozen? ⟨w.heap.size,j,none⟩=false:=by unfold World.frozen?;rw [h.res];simp
theorem RS.pos (h:RS w0 p s c en k i n w):w0.heap.size<=w.heap.size:=h.below.size
theorem LI.lt (h:LI w0 w p s c en k i n T cs u):w.heap.size+1<=u.heap.size:=(gX.1 h.res).1
theorem LI.kept {u2:AG} (h:LI w0 w p s c en k i n T cs u) (h2:But p u u2):∀k,Since (w.heap.size+1) u none k->Since (w.heap.size+1) u2 none k/\u2.heap[k]?=u.heap[k]?:=zo (by have:=h.pw;omega) h2
theorem aD (w u:AG) (j:Nat) (v:Value):∀k,Since (w.heap.size+1) u none k->Since (w.heap.size+1) (u.setCell ⟨w.heap.size,j,none⟩ v) none k/\(u.setCell ⟨w.heap.size,j,none⟩ v).heap[k]?=u.heap[k]?:=λk hk =>
 ⟨⟨hk.1,by simpa using hk.2.1,by simp⟩,Below.heap_setCell _ _ _ _ (by have:=hk.1;show k≠w.heap.size;omega)⟩
theorem qQ {B:Nat} (w u:AG) (hB:w.heap.size+1<=B):∀k,Since B u none k->Since (w.heap.size+1) u none k/\u.heap[k]?=u.heap[k]?:=λk hk=>⟨⟨eU hB hk.1,hk.2.1,hk.2.2⟩,rfl⟩
theorem qR (w u:AG):∀k,Since (w.heap.size+1) u none k->Since w.heap.size u none k/\u.heap[k]?=u.heap[k]?:=λk hk=>⟨⟨by have:=hk.1;omega,hk.2.1,hk.2.2⟩,rfl⟩
end
def kK (s:AH) (en i:Nat):R gu:=bd (zA s en i) λf j=>bd (ru s en j) λa m=>if f=true then bd (ru s en m) λb q=>.ok (⟨a,b,true⟩,q) else .ok (⟨a,0,false⟩,m)
def nS (s:AH) (en i:Nat):R oH:=bd (xn s en i) λt j=>bd (nx s en j) λx m=>if x<=3 then bd (ru s en m) λb q=>.ok (⟨t,x,b⟩,q) else .error 50
def nR (s:AH) (en i:Nat):R oG:=bd (xn s en i) λt j=>bd (xn s en j) λx m=>bd (must s en 0 m) λ_ q=>bd (ru s en q) λb e=>.ok (⟨t,x,b⟩,e)
def Dr {α:Type} (C:α->List Value):EK α:=λ_ _ x vs=>vs=C x
def Dt:EK gu:=Dr λx=>[.int .i64 x.min,.int .i64 x.max,.bool x.has]
def Jd:EK oH:=Dr λx=>[.string x.name,.int .i64 x.kind,.int .i64 x.index]
def qy (s:AH) (en i:Nat):R gu:=bd (must s en 112 i) λ_ j=>kK s en j
def qO (s:AH) (en i:Nat):R Int:=bd (ru s en i) λa j=>.ok (a,j)
def Jc:EK Int:=Dr λx=>[.int .i64 x,.slice none 0 0,.slice none 0 0]
def ni (s:AH) (en i:Nat):R FT:=bd (must s en 96 i) λ_ j=>bd (zH s en j) λa m=>bd (zH s en m) λb q=>.ok (⟨a,b⟩,q)
def Gb:EK FT:=λw S x vs=>∃a b,vs = [a,b]/\aU w S a x.params/\aU w S b x.results
def Jb:EK oG:=Dr λx=>[.string x.mod,.string x.name,.int .i64 x.type]
end aI
section
variable (w0:AG) (p:Nat) (s:AH) (c:Nat->Value) (en k i n:Nat) (w:AG) (h:RS w0 p s c en k i n w)
include h
theorem Nv:Calls prog 79 #[.pointer (some ⟨p,0,none⟩)] w (cz w0 p s c en k n (Ho Dt w.heap.size) w (kK s en i)):=by
 have HS:=aa (LI.start h 86 #[.int .i64 0,.int .i64 0,.bool false]);clear h;obtain ⟨R,hR⟩:∃R,R=kK s en i:=⟨_,rfl⟩;rw [<- hR];have HR:=aa hR;clear hR;go_enter func79,ntmps79;have hc0:=PF w0 p s c en k i n (w.alloc (.cells #[.int .i64 0,.int .i64 0,.bool false] 86)) HS.out.rs;have aN:=aa hc0;clear hc0;go_wp2_with fail;refine aN.out.mono ?_;intro e u0 hr;cases hx0:zA s en i with
 | error z =>
  rw [hx0] at hr;obtain ⟨rfl,hb⟩:=hr;have cJ:=aa hx0;have hz:R=.error z:=by rw [HR.out];unfold kK;simp only [aK,bW,cJ.out,if_true,Bool.false_eq_true,if_false]
  exact ⟨rfl,by rw [hz];exact ⟨rfl,hb⟩⟩
 | ok v =>
  obtain ⟨z0,q0⟩:=v;rw [hx0] at hr;obtain ⟨⟨v0,rfl,hv0⟩,h1,h2⟩:=hr;have hv0:v0=.bool z0:=hv0;subst hv0;have cJ:=aa hx0;have aL:=aa (HS.out.call h1 h2);clear h1 h2 hx0 aN HS;have x2:=aL.out.cell 2 _ rfl;have y2:=aL.out.ax 2;have Lg:Hid (LI w0 w p s c en k q0 n 86 #[.int .i64 0,.int .i64 0,.bool z0] (u0.setCell ⟨w.heap.size,2,none⟩ (.bool z0))):=aa (aL.out.set 2 _);have hc1:=jU w0 p s c en k q0 n (u0.setCell ⟨w.heap.size,2,none⟩ (.bool z0)) Lg.out.rs;have di:=aa hc1;clear hc1;go_wp2_with fail;refine di.out.mono ?_;intro e u1 hr;cases hx1:ru s en q0 with
  | error z =>
   rw [hx1] at hr;obtain ⟨rfl,hb⟩:=hr;have eY:=aa hx1;have hz:R=.error z:=by rw [HR.out];unfold kK;simp only [aK,bW,cJ.out,eY.out,if_true,Bool.false_eq_true,if_false]
   exact ⟨rfl,by rw [hz];exact ⟨rfl,hb⟩⟩
  | ok v =>
   obtain ⟨z1,q1⟩:=v;rw [hx1] at hr;obtain ⟨⟨v1,rfl,hv1⟩,h1,h2⟩:=hr;have hv1:v1=.int .i64 z1:=hv1;subst hv1;have eY:=aa hx1;have aP:=aa (Lg.out.call h1 h2);clear h1 h2 hx1 di Lg;have x0:=aP.out.cell 0 _ rfl;have y0:=aP.out.ax 0;have mi:Hid (LI w0 w p s c en k q1 n 86 #[.int .i64 z1,.int .i64 0,.bool z0] (u1.setCell ⟨w.heap.size,0,none⟩ (.int .i64 z1))):=aa (aP.out.set 0 _);have x2:=mi.out.cell 2 _ rfl;have y2:=mi.out.ax 2;cases z0 with
   | true =>
    have hc2:=jU w0 p s c en k q1 n (u1.setCell ⟨w.heap.size,0,none⟩ (.int .i64 z1)) mi.out.rs;have bg:=aa hc2;clear hc2;go_wp2_with fail;refine bg.out.mono ?_;intro e u2 hr;cases hx2:ru s en q1 with
    | error z =>
     rw [hx2] at hr;obtain ⟨rfl,hb⟩:=hr;have jE:=aa hx2;have hz:R=.error z:=by rw [HR.out];unfold kK;simp only [aK,bW,cJ.out,eY.out,jE.out,if_true,Bool.false_eq_true,if_false]
     exact ⟨rfl,by rw [hz];exact ⟨rfl,hb⟩⟩
    | ok v =>
     obtain ⟨z2,q2⟩:=v;rw [hx2] at hr;obtain ⟨⟨v2,rfl,hv2⟩,h1,h2⟩:=hr;have hv2:v2=.int .i64 z2:=hv2;subst hv2;have jE:=aa hx2;have aM:=aa (mi.out.call h1 h2);clear h1 h2 hx2 bg mi;have x1:=aM.out.cell 1 _ rfl;have y1:=aM.out.ax 1;have tZ:Hid (LI w0 w p s c en k q2 n 86 #[.int .i64 z1,.int .i64 z2,.bool true] (u2.setCell ⟨w.heap.size,1,none⟩ (.int .i64 z2))):=aa (aM.out.set 1 _);have x0:=tZ.out.cell 0 _ rfl;have y0:=tZ.out.ax 0;have x1:=tZ.out.cell 1 _ rfl;have y1:=tZ.out.ax 1;have x2:=tZ.out.cell 2 _ rfl;have y2:=tZ.out.ax 2;go_wp2;have aH:Hid (LI w0 w p s c en k q2 n 86 #[.int .i64 z1,.int .i64 z2,.bool true] ((u2.setCell ⟨w.heap.size,1,none⟩ (.int .i64 z2)).setCell ⟨w.heap.size,0,none⟩ (.int .i64 z1))):=aa (tZ.out.set 0 _);have aJ:Hid (LI w0 w p s c en k q2 n 86 #[.int .i64 z1,.int .i64 z2,.bool true] (((u2.setCell ⟨w.heap.size,1,none⟩ (.int .i64 z2)).setCell ⟨w.heap.size,0,none⟩ (.int .i64 z1)).setCell ⟨w.heap.size,1,none⟩ (.int .i64 z2))):=aa (aH.out.set 1 _);have bz:Hid (LI w0 w p s c en k q2 n 86 #[.int .i64 z1,.int .i64 z2,.bool true] ((((u2.setCell ⟨w.heap.size,1,none⟩ (.int .i64 z2)).setCell ⟨w.heap.size,0,none⟩ (.int .i64 z1)).setCell ⟨w.heap.size,1,none⟩ (.int .i64 z2)).setCell ⟨w.heap.size,2,none⟩ (.bool true))):=aa (aJ.out.set 2 _);have t0:=bz.out.cell 0 _ rfl;have t1:=bz.out.cell 1 _ rfl;have t2:=bz.out.cell 2 _ rfl;have hz:R=.ok (⟨z1,z2,true⟩,q2):=by rw [HR.out];unfold kK;simp only [aK,bW,cJ.out,eY.out,jE.out,if_true,Bool.false_eq_true,if_false]
     rw [hz];exact bodyPost_ret (v:=.agg #[.int .i64 z1,.int .i64 z2,.bool true]) (by simp [results,results79,go_sem,t0,t1,t2]) rfl ⟨⟨_,rfl,rfl,rfl⟩,bz.out.rs,bz.out.but⟩
   | false =>
    have x0:=mi.out.cell 0 _ rfl;have y0:=mi.out.ax 0;have x1:=mi.out.cell 1 _ rfl;have y1:=mi.out.ax 1;have x2:=mi.out.cell 2 _ rfl;have y2:=mi.out.ax 2;go_wp2;have aH:Hid (LI w0 w p s c en k q1 n 86 #[.int .i64 z1,.int .i64 0,.bool false] ((u1.setCell ⟨w.heap.size,0,none⟩ (.int .i64 z1)).setCell ⟨w.heap.size,0,none⟩ (.int .i64 z1))):=aa (mi.out.set 0 _);have aJ:Hid (LI w0 w p s c en k q1 n 86 #[.int .i64 z1,.int .i64 0,.bool false] (((u1.setCell ⟨w.heap.size,0,none⟩ (.int .i64 z1)).setCell ⟨w.heap.size,0,none⟩ (.int .i64 z1)).setCell ⟨w.heap.size,1,none⟩ (.int .i64 0))):=aa (aH.out.set 1 _);have bz:Hid (LI w0 w p s c en k q1 n 86 #[.int .i64 z1,.int .i64 0,.bool false] ((((u1.setCell ⟨w.heap.size,0,none⟩ (.int .i64 z1)).setCell ⟨w.heap.size,0,none⟩ (.int .i64 z1)).setCell ⟨w.heap.size,1,none⟩ (.int .i64 0)).setCell ⟨w.heap.size,2,none⟩ (.bool false))):=aa (aJ.out.set 2 _);have t0:=bz.out.cell 0 _ rfl;have t1:=bz.out.cell 1 _ rfl;have t2:=bz.out.cell 2 _ rfl;have hz:R=.ok (⟨z1,0,false⟩,q1):=by rw [HR.out];unfold kK;simp only [aK,bW,cJ.out,eY.out,if_true,Bool.false_eq_true,if_false]
    rw [hz];exact bodyPost_ret (v:=.agg #[.int .i64 z1,.int .i64 0,.bool false]) (by simp [results,results79,go_sem,t0,t1,t2]) rfl ⟨⟨_,rfl,rfl,rfl⟩,bz.out.rs,bz.out.but⟩
theorem WT:Calls prog 72 #[.pointer (some ⟨p,0,none⟩)] w (cz w0 p s c en k n (RV Gb w.heap.size) w (ni s en i)):=by
 have HS:=aa (LI.start h 57 #[.slice none 0 0,.slice none 0 0]);clear h;obtain ⟨R,hR⟩:∃R,R=ni s en i:=⟨_,rfl⟩;rw [<- hR];have HR:=aa hR;clear hR;go_enter func72,ntmps72;have hc0:=uG w0 p s c en k i n (w.alloc (.cells #[.slice none 0 0,.slice none 0 0] 57)) HS.out.rs 96;have aN:=aa hc0;clear hc0;go_wp2_with fail;refine aN.out.mono ?_;intro e u0 hr;cases hx0:must s en 96 i with
 | error z =>
  rw [hx0] at hr;obtain ⟨rfl,hb⟩:=hr;have cJ:=aa hx0;have hz:R=.error z:=by rw [HR.out];unfold ni;simp only [aK,bW,cJ.out,if_true,Bool.false_eq_true,if_false]
  exact ⟨rfl,by rw [hz];exact ⟨rfl,hb⟩⟩
 | ok v =>
  obtain ⟨z0,q0⟩:=v;rw [hx0] at hr;obtain ⟨⟨v0,rfl,hv0⟩,h1,h2⟩:=hr;have hv0:v0=.tuple #[]:=hv0;subst hv0;have cJ:=aa hx0;have aL:=aa (HS.out.call h1 h2);clear h1 h2 hx0 aN HS;have hc1:=RX w0 p s c en k q0 n u0 aL.out.rs;have di:=aa hc1;clear hc1;go_wp2_with fail;refine di.out.mono ?_;intro e u1 hr;cases hx1:zH s en q0 with
  | error z =>
   rw [hx1] at hr;obtain ⟨rfl,hb⟩:=hr;have eY:=aa hx1;have hz:R=.error z:=by rw [HR.out];unfold ni;simp only [aK,bW,cJ.out,eY.out,if_true,Bool.false_eq_true,if_false]
   exact ⟨rfl,by rw [hz];exact ⟨rfl,hb⟩⟩
  | ok v =>
   obtain ⟨z1,q1⟩:=v;rw [hx1] at hr;obtain ⟨⟨v1,rfl,hv1⟩,h1,h2⟩:=hr;have hv1:aU u1 (Since u0.heap.size u1 none) v1 z1:=hv1;have nz:=aa (hv1.keep (qQ w u1 (by simpa using aL.out.lt)));obtain ⟨o1,k1,rfl⟩:=Row.len hv1;clear hv1;have eY:=aa hx1;have aP:=aa (aL.out.call h1 h2);clear h1 h2 hx1 di aL;have x0:=aP.out.cell 0 _ rfl;have y0:=aP.out.ax 0;have mi:Hid (LI w0 w p s c en k q1 n 57 #[.slice o1 z1.length k1,.slice none 0 0] (u1.setCell ⟨w.heap.size,0,none⟩ (.slice o1 z1.length k1))):=aa (aP.out.set 0 _);have RY:=aa (aU.keep (aD w u1 0 (.slice o1 z1.length k1)) nz.out);clear nz;have hc2:=RX w0 p s c en k q1 n (u1.setCell ⟨w.heap.size,0,none⟩ (.slice o1 z1.length k1)) mi.out.rs;have bg:=aa hc2;clear hc2;go_wp2_with fail;refine bg.out.mono ?_;intro e u2 hr;cases hx2:zH s en q1 with
   | error z =>
    rw [hx2] at hr;obtain ⟨rfl,hb⟩:=hr;have jE:=aa hx2;have hz:R=.error z:=by rw [HR.out];unfold ni;simp only [aK,bW,cJ.out,eY.out,jE.out,if_true,Bool.false_eq_true,if_false]
    exact ⟨rfl,by rw [hz];exact ⟨rfl,hb⟩⟩
   | ok v =>
    obtain ⟨z2,q2⟩:=v;rw [hx2] at hr;obtain ⟨⟨v2,rfl,hv2⟩,h1,h2⟩:=hr;have RZ:=aa (aU.keep (mi.out.kept h2) RY.out);clear RY;have hv2:aU u2 (Since (u1.setCell ⟨w.heap.size,0,none⟩ (.slice o1 z1.length k1)).heap.size u2 none) v2 z2:=hv2;have Bv:=aa (hv2.keep (qQ w u2 (by simpa using mi.out.lt)));obtain ⟨o2,k2,rfl⟩:=Row.len hv2;clear hv2;have jE:=aa hx2;have aM:=aa (mi.out.call h1 h2);clear h1 h2 hx2 bg mi;have x1:=aM.out.cell 1 _ rfl;have y1:=aM.out.ax 1;have tZ:Hid (LI w0 w p s c en k q2 n 57 #[.slice o1 z1.length k1,.slice o2 z2.length k2] (u2.setCell ⟨w.heap.size,1,none⟩ (.slice o2 z2.length k2))):=aa (aM.out.set 1 _);have R3:=aa (aU.keep (aD w u2 1 (.slice o2 z2.length k2)) RZ.out);clear RZ;have R4:=aa (aU.keep (aD w u2 1 (.slice o2 z2.length k2)) Bv.out);clear Bv;have x0:=tZ.out.cell 0 _ rfl;have y0:=tZ.out.ax 0;have x1:=tZ.out.cell 1 _ rfl;have y1:=tZ.out.ax 1;go_wp2;have aH:Hid (LI w0 w p s c en k q2 n 57 #[.slice o1 z1.length k1,.slice o2 z2.length k2] ((u2.setCell ⟨w.heap.size,1,none⟩ (.slice o2 z2.length k2)).setCell ⟨w.heap.size,0,none⟩ (.slice o1 z1.length k1))):=aa (tZ.out.set 0 _);have R5:=aa (aU.keep (aD w (u2.setCell ⟨w.heap.size,1,none⟩ (.slice o2 z2.length k2)) 0 (.slice o1 z1.length k1)) R3.out);clear R3;have R6:=aa (aU.keep (aD w (u2.setCell ⟨w.heap.size,1,none⟩ (.slice o2 z2.length k2)) 0 (.slice o1 z1.length k1)) R4.out);clear R4;have aJ:Hid (LI w0 w p s c en k q2 n 57 #[.slice o1 z1.length k1,.slice o2 z2.length k2] (((u2.setCell ⟨w.heap.size,1,none⟩ (.slice o2 z2.length k2)).setCell ⟨w.heap.size,0,none⟩ (.slice o1 z1.length k1)).setCell ⟨w.heap.size,1,none⟩ (.slice o2 z2.length k2))):=aa (aH.out.set 1 _);have acW:=aa (aU.keep (aD w ((u2.setCell ⟨w.heap.size,1,none⟩ (.slice o2 z2.length k2)).setCell ⟨w.heap.size,0,none⟩ (.slice o1 z1.length k1)) 1 (.slice o2 z2.length k2)) R5.out);clear R5;have acX:=aa (aU.keep (aD w ((u2.setCell ⟨w.heap.size,1,none⟩ (.slice o2 z2.length k2)).setCell ⟨w.heap.size,0,none⟩ (.slice o1 z1.length k1)) 1 (.slice o2 z2.length k2)) R6.out);clear R6;have t0:=aJ.out.cell 0 _ rfl;have t1:=aJ.out.cell 1 _ rfl;have hz:R=.ok (⟨z1,z2⟩,q2):=by rw [HR.out];unfold ni;simp only [aK,bW,cJ.out,eY.out,jE.out,if_true,Bool.false_eq_true,if_false]
    rw [hz];exact bodyPost_ret (v:=.agg #[.slice o1 z1.length k1,.slice o2 z2.length k2]) (by simp [results,results72,go_sem,t0,t1]) rfl ⟨⟨_,rfl,_,_,_,_,_,_,rfl,_,_,rfl,(aU.keep (qR w _) acW.out),(aU.keep (qR w _) acX.out)⟩,aJ.out.rs,aJ.out.but⟩
theorem Xe (hU:∀u,AS w0 u->mI u):Calls prog 74 #[.pointer (some ⟨p,0,none⟩)] w (cz w0 p s c en k n (R7 Jb w.heap.size) w (nR s en i)):=by
 have HS:=aa (LI.start h 83 #[.string ByteArray.empty,.string ByteArray.empty,.int .i64 0]);have HU:=aa hU;clear h hU;obtain ⟨R,hR⟩:∃R,R=nR s en i:=⟨_,rfl⟩;rw [<- hR];have HR:=aa hR;clear hR;go_enter func74,ntmps74;have hc0:=Km w0 p s c en k i n (w.alloc (.cells #[.string ByteArray.empty,.string ByteArray.empty,.int .i64 0] 83)) HS.out.rs HU.out;have aN:=aa hc0;clear hc0;go_wp2_with fail;refine aN.out.mono ?_;intro e u0 hr;cases hx0:xn s en i with
 | error z =>
  rw [hx0] at hr;obtain ⟨rfl,hb⟩:=hr;have cJ:=aa hx0;have hz:R=.error z:=by rw [HR.out];unfold nR;simp only [aK,bW,cJ.out,if_true,Bool.false_eq_true,if_false]
  exact ⟨rfl,by rw [hz];exact ⟨rfl,hb⟩⟩
 | ok v =>
  obtain ⟨z0,q0⟩:=v;rw [hx0] at hr;obtain ⟨⟨v0,rfl,hv0⟩,h1,h2⟩:=hr;have hv0:v0=.string z0:=hv0;subst hv0;have cJ:=aa hx0;have aL:=aa (HS.out.call h1 h2);clear h1 h2 hx0 aN HS;have x0:=aL.out.cell 0 _ rfl;have y0:=aL.out.ax 0;have wu:Hid (LI w0 w p s c en k q0 n 83 #[.string z0,.string ByteArray.empty,.int .i64 0] (u0.setCell ⟨w.heap.size,0,none⟩ (.string z0))):=aa (aL.out.set 0 _);have hc1:=Km w0 p s c en k q0 n (u0.setCell ⟨w.heap.size,0,none⟩ (.string z0)) wu.out.rs HU.out;have di:=aa hc1;clear hc1;go_wp2_with fail;refine di.out.mono ?_;intro e u1 hr;cases hx1:xn s en q0 with
  | error z =>
   rw [hx1] at hr;obtain ⟨rfl,hb⟩:=hr;have eY:=aa hx1;have hz:R=.error z:=by rw [HR.out];unfold nR;simp only [aK,bW,cJ.out,eY.out,if_true,Bool.false_eq_true,if_false]
   exact ⟨rfl,by rw [hz];exact ⟨rfl,hb⟩⟩
  | ok v =>
   obtain ⟨z1,q1⟩:=v;rw [hx1] at hr;obtain ⟨⟨v1,rfl,hv1⟩,h1,h2⟩:=hr;have hv1:v1=.string z1:=hv1;subst hv1;have eY:=aa hx1;have aP:=aa (wu.out.call h1 h2);clear h1 h2 hx1 di wu;have x1:=aP.out.cell 1 _ rfl;have y1:=aP.out.ax 1;have rC:Hid (LI w0 w p s c en k q1 n 83 #[.string z0,.string z1,.int .i64 0] (u1.setCell ⟨w.heap.size,1,none⟩ (.string z1))):=aa (aP.out.set 1 _);have hc2:=uG w0 p s c en k q1 n (u1.setCell ⟨w.heap.size,1,none⟩ (.string z1)) rC.out.rs 0;have bg:=aa hc2;clear hc2;go_wp2_with fail;refine bg.out.mono ?_;intro e u2 hr;cases hx2:must s en 0 q1 with
   | error z =>
    rw [hx2] at hr;obtain ⟨rfl,hb⟩:=hr;have jE:=aa hx2;have hz:R=.error z:=by rw [HR.out];unfold nR;simp only [aK,bW,cJ.out,eY.out,jE.out,if_true,Bool.false_eq_true,if_false]
    exact ⟨rfl,by rw [hz];exact ⟨rfl,hb⟩⟩
   | ok v =>
    obtain ⟨z2,q2⟩:=v;rw [hx2] at hr;obtain ⟨⟨v2,rfl,hv2⟩,h1,h2⟩:=hr;have hv2:v2=.tuple #[]:=hv2;subst hv2;have jE:=aa hx2;have aM:=aa (rC.out.call h1 h2);clear h1 h2 hx2 bg rC;have hc3:=jU w0 p s c en k q2 n u2 aM.out.rs;have R8:=aa hc3;clear hc3;go_wp2_with fail;refine R8.out.mono ?_;intro e u3 hr;cases hx3:ru s en q2 with
    | error z =>
     rw [hx3] at hr;obtain ⟨rfl,hb⟩:=hr;have DW:=aa hx3;have hz:R=.error z:=by rw [HR.out];unfold nR;simp only [aK,bW,cJ.out,eY.out,jE.out,DW.out,if_true,Bool.false_eq_true,if_false]
     exact ⟨rfl,by rw [hz];exact ⟨rfl,hb⟩⟩
    | ok v =>
     obtain ⟨z3,q3⟩:=v;rw [hx3] at hr;obtain ⟨⟨v3,rfl,ma⟩,h1,h2⟩:=hr;have ma:v3=.int .i64 z3:=ma;subst ma;have DW:=aa hx3;have ji:=aa (aM.out.call h1 h2);clear h1 h2 hx3 R8 aM;have x2:=ji.out.cell 2 _ rfl;have y2:=ji.out.ax 2;have BB:Hid (LI w0 w p s c en k q3 n 83 #[.string z0,.string z1,.int .i64 z3] (u3.setCell ⟨w.heap.size,2,none⟩ (.int .i64 z3))):=aa (ji.out.set 2 _);have x0:=BB.out.cell 0 _ rfl;have y0:=BB.out.ax 0;have x1:=BB.out.cell 1 _ rfl;have y1:=BB.out.ax 1;have x2:=BB.out.cell 2 _ rfl;have y2:=BB.out.ax 2;go_wp2;have aH:Hid (LI w0 w p s c en k q3 n 83 #[.string z0,.string z1,.int .i64 z3] ((u3.setCell ⟨w.heap.size,2,none⟩ (.int .i64 z3)).setCell ⟨w.heap.size,0,none⟩ (.string z0))):=aa (BB.out.set 0 _);have aJ:Hid (LI w0 w p s c en k q3 n 83 #[.string z0,.string z1,.int .i64 z3] (((u3.setCell ⟨w.heap.size,2,none⟩ (.int .i64 z3)).setCell ⟨w.heap.size,0,none⟩ (.string z0)).setCell ⟨w.heap.size,1,none⟩ (.string z1))):=aa (aH.out.set 1 _);have bz:Hid (LI w0 w p s c en k q3 n 83 #[.string z0,.string z1,.int .i64 z3] ((((u3.setCell ⟨w.heap.size,2,none⟩ (.int .i64 z3)).setCell ⟨w.heap.size,0,none⟩ (.string z0)).setCell ⟨w.heap.size,1,none⟩ (.string z1)).setCell ⟨w.heap.size,2,none⟩ (.int .i64 z3))):=aa (aJ.out.set 2 _);have t0:=bz.out.cell 0 _ rfl;have t1:=bz.out.cell 1 _ rfl;have t2:=bz.out.cell 2 _ rfl;have hz:R=.ok (⟨z0,z1,z3⟩,q3):=by rw [HR.out];unfold nR;simp only [aK,bW,cJ.out,eY.out,jE.out,DW.out,if_true,Bool.false_eq_true,if_false]
     rw [hz];exact bodyPost_ret (v:=.agg #[.string z0,.string z1,.int .i64 z3]) (by simp [results,results74,go_sem,t0,t1,t2]) rfl ⟨⟨_,rfl,rfl,rfl⟩,bz.out.rs,bz.out.but⟩
theorem Xg (hU:∀u,AS w0 u->mI u):Calls prog 83 #[.pointer (some ⟨p,0,none⟩)] w (cz w0 p s c en k n (R9 Jd w.heap.size) w (nS s en i)):=by
 have HS:=aa (LI.start h 89 #[.string ByteArray.empty,.int .i64 0,.int .i64 0]);have HU:=aa hU;clear h hU;obtain ⟨R,hR⟩:∃R,R=nS s en i:=⟨_,rfl⟩;rw [<- hR];have HR:=aa hR;clear hR;go_enter func83,ntmps83;have hc0:=Km w0 p s c en k i n (w.alloc (.cells #[.string ByteArray.empty,.int .i64 0,.int .i64 0] 89)) HS.out.rs HU.out;have aN:=aa hc0;clear hc0;go_wp2_with fail;refine aN.out.mono ?_;intro e u0 hr;cases hx0:xn s en i with
 | error z =>
  rw [hx0] at hr;obtain ⟨rfl,hb⟩:=hr;have cJ:=aa hx0;have hz:R=.error z:=by rw [HR.out];unfold nS;simp only [aK,bW,cJ.out,if_true,Bool.false_eq_true,if_false]
  exact ⟨rfl,by rw [hz];exact ⟨rfl,hb⟩⟩
 | ok v =>
  obtain ⟨z0,q0⟩:=v;rw [hx0] at hr;obtain ⟨⟨v0,rfl,hv0⟩,h1,h2⟩:=hr;have hv0:v0=.string z0:=hv0;subst hv0;have cJ:=aa hx0;have aL:=aa (HS.out.call h1 h2);clear h1 h2 hx0 aN HS;have x0:=aL.out.cell 0 _ rfl;have y0:=aL.out.ax 0;have wu:Hid (LI w0 w p s c en k q0 n 89 #[.string z0,.int .i64 0,.int .i64 0] (u0.setCell ⟨w.heap.size,0,none⟩ (.string z0))):=aa (aL.out.set 0 _);have hc1:=xO w0 p s c en k q0 n (u0.setCell ⟨w.heap.size,0,none⟩ (.string z0)) wu.out.rs;have di:=aa hc1;clear hc1;go_wp2_with fail;refine di.out.mono ?_;intro e u1 hr;cases hx1:nx s en q0 with
  | error z =>
   rw [hx1] at hr;obtain ⟨rfl,hb⟩:=hr;have eY:=aa hx1;have hz:R=.error z:=by rw [HR.out];unfold nS;simp only [aK,bW,cJ.out,eY.out,if_true,Bool.false_eq_true,if_false]
   exact ⟨rfl,by rw [hz];exact ⟨rfl,hb⟩⟩
  | ok v =>
   obtain ⟨z1,q1⟩:=v;rw [hx1] at hr;obtain ⟨⟨v1,rfl,hv1⟩,h1,h2⟩:=hr;have hv1:v1=.int .i64 z1:=hv1;subst hv1;have eY:=aa hx1;have aP:=aa (wu.out.call h1 h2);clear h1 h2 hx1 di wu;have x1:=aP.out.cell 1 _ rfl;have y1:=aP.out.ax 1;have rC:Hid (LI w0 w p s c en k q1 n 89 #[.string z0,.int .i64 z1,.int .i64 0] (u1.setCell ⟨w.heap.size,1,none⟩ (.int .i64 z1))):=aa (aP.out.set 1 _);by_cases hb3:z1<=3
   ·have qb:decide (z1<=(3:Int))=true:=ay hb3;have Hp:Hid ((z1<=3)=True):=aa (eq_true hb3);clear hb3;go_wp2_with fail;refine (dA _ _).mono ?_;rintro e uy ⟨rfl,rfl⟩;have hc2:=jU w0 p s c en k q1 n (u1.setCell ⟨w.heap.size,1,none⟩ (.int .i64 z1)) rC.out.rs;have bg:=aa hc2;clear hc2;go_wp2_with fail;refine bg.out.mono ?_;intro e u2 hr;cases hx2:ru s en q1 with
    | error z =>
     rw [hx2] at hr;obtain ⟨rfl,hb⟩:=hr;have jE:=aa hx2;have hz:R=.error z:=by rw [HR.out];unfold nS;simp only [aK,bW,cJ.out,eY.out,Hp.out,jE.out,if_true,Bool.false_eq_true,if_false]
     exact ⟨rfl,by rw [hz];exact ⟨rfl,hb⟩⟩
    | ok v =>
     obtain ⟨z2,q2⟩:=v;rw [hx2] at hr;obtain ⟨⟨v2,rfl,hv2⟩,h1,h2⟩:=hr;have hv2:v2=.int .i64 z2:=hv2;subst hv2;have jE:=aa hx2;have aM:=aa (rC.out.call h1 h2);clear h1 h2 hx2 bg rC;have x2:=aM.out.cell 2 _ rfl;have y2:=aM.out.ax 2;have yx:Hid (LI w0 w p s c en k q2 n 89 #[.string z0,.int .i64 z1,.int .i64 z2] (u2.setCell ⟨w.heap.size,2,none⟩ (.int .i64 z2))):=aa (aM.out.set 2 _);have x0:=yx.out.cell 0 _ rfl;have y0:=yx.out.ax 0;have x1:=yx.out.cell 1 _ rfl;have y1:=yx.out.ax 1;have x2:=yx.out.cell 2 _ rfl;have y2:=yx.out.ax 2;go_wp2;have aH:Hid (LI w0 w p s c en k q2 n 89 #[.string z0,.int .i64 z1,.int .i64 z2] ((u2.setCell ⟨w.heap.size,2,none⟩ (.int .i64 z2)).setCell ⟨w.heap.size,0,none⟩ (.string z0))):=aa (yx.out.set 0 _);have aJ:Hid (LI w0 w p s c en k q2 n 89 #[.string z0,.int .i64 z1,.int .i64 z2] (((u2.setCell ⟨w.heap.size,2,none⟩ (.int .i64 z2)).setCell ⟨w.heap.size,0,none⟩ (.string z0)).setCell ⟨w.heap.size,1,none⟩ (.int .i64 z1))):=aa (aH.out.set 1 _);have bz:Hid (LI w0 w p s c en k q2 n 89 #[.string z0,.int .i64 z1,.int .i64 z2] ((((u2.setCell ⟨w.heap.size,2,none⟩ (.int .i64 z2)).setCell ⟨w.heap.size,0,none⟩ (.string z0)).setCell ⟨w.heap.size,1,none⟩ (.int .i64 z1)).setCell ⟨w.heap.size,2,none⟩ (.int .i64 z2))):=aa (aJ.out.set 2 _);have t0:=bz.out.cell 0 _ rfl;have t1:=bz.out.cell 1 _ rfl;have t2:=bz.out.cell 2 _ rfl;have hz:R=.ok (⟨z0,z1,z2⟩,q2):=by rw [HR.out];unfold nS;simp only [aK,bW,cJ.out,eY.out,Hp.out,jE.out,if_true,Bool.false_eq_true,if_false]
     rw [hz];exact bodyPost_ret (v:=.agg #[.string z0,.int .i64 z1,.int .i64 z2]) (by simp [results,results83,go_sem,t0,t1,t2]) rfl ⟨⟨_,rfl,rfl,rfl⟩,bz.out.rs,bz.out.but⟩
   have qb:decide (z1<=(3:Int))=false:=aj hb3;have Hp:Hid ((z1<=3)=False):=aa (eq_false hb3);clear hb3;have HB:=aa rC.out.rs.below;go_wp2_with fail;refine (iX _ _).mono ?_;rintro e uy ⟨rfl,rfl⟩;have hz:R=.error 50:=by rw [HR.out];unfold nS;simp only [aK,bW,cJ.out,eY.out,Hp.out,if_true,Bool.false_eq_true,if_false]
   exact ⟨rfl,by rw [hz];exact ⟨rfl,HB.out⟩⟩
theorem WV:Calls prog 76 #[.pointer (some ⟨p,0,none⟩)] w (cz w0 p s c en k n (Sa Jc w.heap.size) w (qO s en i)):=by
 have HS:=aa (LI.start h 55 #[.int .i64 0,.slice none 0 0,.slice none 0 0]);clear h;obtain ⟨R,hR⟩:∃R,R=qO s en i:=⟨_,rfl⟩;rw [<- hR];have HR:=aa hR;clear hR;go_enter func76,ntmps76;have hc0:=jU w0 p s c en k i n (w.alloc (.cells #[.int .i64 0,.slice none 0 0,.slice none 0 0] 55)) HS.out.rs;have aN:=aa hc0;clear hc0;go_wp2_with fail;refine aN.out.mono ?_;intro e u0 hr;cases hx0:ru s en i with
 | error z =>
  rw [hx0] at hr;obtain ⟨rfl,hb⟩:=hr;have cJ:=aa hx0;have hz:R=.error z:=by rw [HR.out];unfold qO;simp only [aK,bW,cJ.out,if_true,Bool.false_eq_true,if_false]
  exact ⟨rfl,by rw [hz];exact ⟨rfl,hb⟩⟩
 | ok v =>
  obtain ⟨z0,q0⟩:=v;rw [hx0] at hr;obtain ⟨⟨v0,rfl,hv0⟩,h1,h2⟩:=hr;have hv0:v0=.int .i64 z0:=hv0;subst hv0;have cJ:=aa hx0;have aL:=aa (HS.out.call h1 h2);clear h1 h2 hx0 aN HS;have x0:=aL.out.cell 0 _ rfl;have y0:=aL.out.ax 0;have x1:=aL.out.cell 1 _ rfl;have y1:=aL.out.ax 1;have x2:=aL.out.cell 2 _ rfl;have y2:=aL.out.ax 2;go_wp2;have aH:Hid (LI w0 w p s c en k q0 n 55 #[.int .i64 z0,.slice none 0 0,.slice none 0 0] (u0.setCell ⟨w.heap.size,0,none⟩ (.int .i64 z0))):=aa (aL.out.set 0 _);have aJ:Hid (LI w0 w p s c en k q0 n 55 #[.int .i64 z0,.slice none 0 0,.slice none 0 0] ((u0.setCell ⟨w.heap.size,0,none⟩ (.int .i64 z0)).setCell ⟨w.heap.size,1,none⟩ (.slice none 0 0))):=aa (aH.out.set 1 _);have bz:Hid (LI w0 w p s c en k q0 n 55 #[.int .i64 z0,.slice none 0 0,.slice none 0 0] (((u0.setCell ⟨w.heap.size,0,none⟩ (.int .i64 z0)).setCell ⟨w.heap.size,1,none⟩ (.slice none 0 0)).setCell ⟨w.heap.size,2,none⟩ (.slice none 0 0))):=aa (aJ.out.set 2 _);have t0:=bz.out.cell 0 _ rfl;have t1:=bz.out.cell 1 _ rfl;have t2:=bz.out.cell 2 _ rfl;have hz:R=.ok (z0,q0):=by rw [HR.out];unfold qO;simp only [aK,bW,cJ.out,if_true,Bool.false_eq_true,if_false]
  rw [hz];exact bodyPost_ret (v:=.agg #[.int .i64 z0,.slice none 0 0,.slice none 0 0]) (by simp [results,results76,go_sem,t0,t1,t2]) rfl ⟨⟨_,rfl,rfl,rfl⟩,bz.out.rs,bz.out.but⟩
theorem WX:Calls prog 78 #[.pointer (some ⟨p,0,none⟩)] w (cz w0 p s c en k n (Ho Dt w.heap.size) w (qy s en i)):=by
 have HS:=aa (LI.start h 86 #[.int .i64 0,.int .i64 0,.bool false]);clear h;obtain ⟨R,hR⟩:∃R,R=qy s en i:=⟨_,rfl⟩;rw [<- hR];have HR:=aa hR;clear hR;go_enter func78,ntmps78;have hc0:=uG w0 p s c en k i n (w.alloc (.cells #[.int .i64 0,.int .i64 0,.bool false] 86)) HS.out.rs 112;have aN:=aa hc0;clear hc0;go_wp2_with fail;refine aN.out.mono ?_;intro e u0 hr;cases hx0:must s en 112 i with
 | error z =>
  rw [hx0] at hr;obtain ⟨rfl,hb⟩:=hr;have cJ:=aa hx0;have hz:R=.error z:=by rw [HR.out];unfold qy;simp only [aK,bW,cJ.out,if_true,Bool.false_eq_true,if_false]
  exact ⟨rfl,by rw [hz];exact ⟨rfl,hb⟩⟩
 | ok v =>
  obtain ⟨z0,q0⟩:=v;rw [hx0] at hr;obtain ⟨⟨v0,rfl,hv0⟩,h1,h2⟩:=hr;have hv0:v0=.tuple #[]:=hv0;subst hv0;have cJ:=aa hx0;have aL:=aa (HS.out.call h1 h2);clear h1 h2 hx0 aN HS;have hc1:=Nv w0 p s c en k q0 n u0 aL.out.rs;have di:=aa hc1;clear hc1;go_wp2_with fail;refine di.out.mono ?_;intro e u1 hr;cases hx1:kK s en q0 with
  | error z =>
   rw [hx1] at hr;obtain ⟨rfl,hb⟩:=hr;have eY:=aa hx1;have hz:R=.error z:=by rw [HR.out];unfold qy;simp only [aK,bW,cJ.out,eY.out,if_true,Bool.false_eq_true,if_false]
   exact ⟨rfl,by rw [hz];exact ⟨rfl,hb⟩⟩
  | ok v =>
   obtain ⟨z1,q1⟩:=v;rw [hx1] at hr;obtain ⟨⟨v1,rfl,hv1⟩,h1,h2⟩:=hr;have hv1:v1=.agg #[.int .i64 z1.min,.int .i64 z1.max,.bool z1.has]:=hv1.1;subst hv1;have eY:=aa hx1;have aP:=aa (aL.out.call h1 h2);clear h1 h2 hx1 di aL;have x0:=aP.out.cell 0 _ rfl;have y0:=aP.out.ax 0;have x1:=aP.out.cell 1 _ rfl;have y1:=aP.out.ax 1;have x2:=aP.out.cell 2 _ rfl;have y2:=aP.out.ax 2;go_wp2;have aH:Hid (LI w0 w p s c en k q1 n 86 #[.int .i64 z1.min,.int .i64 0,.bool false] (u1.setCell ⟨w.heap.size,0,none⟩ (.int .i64 z1.min))):=aa (aP.out.set 0 _);have aJ:Hid (LI w0 w p s c en k q1 n 86 #[.int .i64 z1.min,.int .i64 z1.max,.bool false] ((u1.setCell ⟨w.heap.size,0,none⟩ (.int .i64 z1.min)).setCell ⟨w.heap.size,1,none⟩ (.int .i64 z1.max))):=aa (aH.out.set 1 _);have bz:Hid (LI w0 w p s c en k q1 n 86 #[.int .i64 z1.min,.int .i64 z1.max,.bool z1.has] (((u1.setCell ⟨w.heap.size,0,none⟩ (.int .i64 z1.min)).setCell ⟨w.heap.size,1,none⟩ (.int .i64 z1.max)).setCell ⟨w.heap.size,2,none⟩ (.bool z1.has))):=aa (aJ.out.set 2 _);have t0:=bz.out.cell 0 _ rfl;have t1:=bz.out.cell 1 _ rfl;have t2:=bz.out.cell 2 _ rfl;have hz:R=.ok (z1,q1):=by rw [HR.out];unfold qy;simp only [aK,bW,cJ.out,eY.out,if_true,Bool.false_eq_true,if_false]
   rw [hz];exact bodyPost_ret (v:=.agg #[.int .i64 z1.min,.int .i64 z1.max,.bool z1.has]) (by simp [results,results78,go_sem,t0,t1,t2]) rfl ⟨⟨_,rfl,rfl,rfl⟩,bz.out.rs,bz.out.but⟩
end
end Go.Proofs.YtcfifbgemfladaaGreatDoor
