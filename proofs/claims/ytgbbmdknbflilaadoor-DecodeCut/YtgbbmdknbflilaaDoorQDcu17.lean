/- Texts that the claim needs. -/
import Derived.Test.YtgbbmdknbflilaaDoorQDcu16
import Derived.Test.YtgbbmdknbflilaaDoorQDcu11
namespace Go.Proofs.YtgbbmdknbflilaaDoor
open Go.RowKit Rep Dec
set_option linter.unusedVariables false
set_option linter.unusedSimpArgs false
namespace Dec
structure LI (w0 w:World) (p:Nat) (s:ByteArray) (c:Nat->Value) (en k i n T:Nat) (cs:Array Value) (u:World):Prop where
 rs:RS w0 p s c en k i n u
 but:But p w u
 res:u.heap[w.heap.size]?=some (.cells cs T (0,0))
 pw:p<w.heap.size
section
variable {w0 w u:World} {p:Nat} {s:ByteArray} {c:Nat->Value} {en k i n T:Nat} {cs:Array Value}
theorem LI.start (h:RS w0 p s c en k i n w) (T:Nat) (cs:Array Value):LI w0 w p s c en k i n T cs (w.alloc (.cells cs T)) :=
 ⟨h.on (new_on' w _),But.of p (new_on' w _),heap_alloc_new' w _ rfl,h.lt⟩
theorem LI.call {i2 n2:Nat} {u2:World} (h:LI w0 w p s c en k i n T cs u) (h1:RS w0 p s c en k i2 n2 u2) (h2:But p u u2):LI w0 w p s c en k i2 n2 T cs u2 :=
 ⟨h1,h.but.trans h2,by rw [h2.block _ (Array.getElem?_eq_some_iff.1 h.res).1 (fun e=>by injection e with e;have:=h.pw;omega)];exact h.res,h.pw⟩
theorem LI.set (h:LI w0 w p s c en k i n T cs u) (j:Nat) (v:Value):LI w0 w p s c en k i n T (cs.setIfInBounds j v) (u.setCell ⟨w.heap.size,j,none⟩ v) :=
 ⟨h.rs.set (by have:=h.pw;omega) (by have:=h.rs.base;have:=h.pw;omega) _ _,but_set h.but (Nat.le_refl _) _ _,heap_setCell_same u _ j _ _ v h.res,h.pw⟩
theorem LI.cell (h:LI w0 w p s c en k i n T cs u) (j:Nat) (v:Value) (hv:cs[j]?=some v):u.cell? ⟨w.heap.size,j,none⟩=some v:=by
 unfold World.cell?;rw [h.res];exact hv
theorem LI.frz (h:LI w0 w p s c en k i n T cs u) (j:Nat):u.frozen? ⟨w.heap.size,j,none⟩=false:=by unfold World.frozen?;rw [h.res];simp
theorem RS.pos (h:RS w0 p s c en k i n w):w0.heap.size<=w.heap.size:=h.below.size
theorem LI.lt (h:LI w0 w p s c en k i n T cs u):w.heap.size+1<=u.heap.size:=(Array.getElem?_eq_some_iff.1 h.res).1
theorem LI.kept {u2:World} (h:LI w0 w p s c en k i n T cs u) (h2:But p u u2):∀k,Since (w.heap.size+1) u none k->Since (w.heap.size+1) u2 none k/\u2.heap[k]?=u.heap[k]?:=since_but (by have:=h.pw;omega) h2
theorem keep_set (w u:World) (j:Nat) (v:Value):∀k,Since (w.heap.size+1) u none k->Since (w.heap.size+1) (u.setCell ⟨w.heap.size,j,none⟩ v) none k/\(u.setCell ⟨w.heap.size,j,none⟩ v).heap[k]?=u.heap[k]?:=fun k hk =>
 ⟨⟨hk.1,by simpa using hk.2.1,by simp⟩,Below.heap_setCell _ _ _ _ (by have:=hk.1;show k≠w.heap.size;omega)⟩
theorem keep_in {B:Nat} (w u:World) (hB:w.heap.size+1<=B):∀k,Since B u none k->Since (w.heap.size+1) u none k/\u.heap[k]?=u.heap[k]?:=fun k hk=>⟨⟨Nat.le_trans hB hk.1,hk.2.1,hk.2.2⟩,rfl⟩
theorem keep_out (w u:World):∀k,Since (w.heap.size+1) u none k->Since w.heap.size u none k/\u.heap[k]?=u.heap[k]?:=fun k hk=>⟨⟨by have:=hk.1;omega,hk.2.1,hk.2.2⟩,rfl⟩
end
def rlim (s:ByteArray) (en i:Nat):R Lim:=bd (rflag s en i) fun f j=>bd (ru s en j) fun a m=>if f=true then bd (ru s en m) fun b q=>.ok (⟨a,b,true⟩,q) else .ok (⟨a,0,false⟩,m)
def rexp (s:ByteArray) (en i:Nat):R Exp:=bd (rname s en i) fun t j=>bd (nx s en j) fun x m=>if x<=3 then bd (ru s en m) fun b q=>.ok (⟨t,x,b⟩,q) else .error 50
def rimp (s:ByteArray) (en i:Nat):R Imp:=bd (rname s en i) fun t j=>bd (rname s en j) fun x m=>bd (must s en 0 m) fun _ q=>bd (ru s en q) fun b e=>.ok (⟨t,x,b⟩,e)
def kPlain {α:Type} (C:α->List Value):EK α:=fun _ _ x vs=>vs=C x
def kLim:EK Lim:=kPlain fun x=>[.int .i64 x.min,.int .i64 x.max,.bool x.has]
def kExp:EK Exp:=kPlain fun x=>[.string x.name,.int .i64 x.kind,.int .i64 x.index]
def rtab (s:ByteArray) (en i:Nat):R Lim:=bd (must s en 112 i) fun _ j=>rlim s en j
def rfty (s:ByteArray) (en i:Nat):R Int:=bd (ru s en i) fun a j=>.ok (a,j)
def kFty:EK Int:=kPlain fun x=>[.int .i64 x,.slice none 0 0,.slice none 0 0]
def rft (s:ByteArray) (en i:Nat):R FT:=bd (must s en 96 i) fun _ j=>bd (rlt s en j) fun a m=>bd (rlt s en m) fun b q=>.ok (⟨a,b⟩,q)
def kFT:EK FT:=fun w S x vs=>∃a b,vs = [a,b]/\IntsS w S a x.params/\IntsS w S b x.results
def kImp:EK Imp:=kPlain fun x=>[.string x.mod,.string x.name,.int .i64 x.type]
end Dec
section
variable (w0:World) (p:Nat) (s:ByteArray) (c:Nat->Value) (en k i n:Nat) (w:World) (h:RS w0 p s c en k i n w)
include h
set_option maxRecDepth 100000 in
set_option maxHeartbeats 4000000 in
theorem dLim:Calls Tryd.prog 30 #[.pointer (some ⟨p,0,none⟩)] w (Rds w0 p s c en k n (vLim kLim w.heap.size) w (rlim s en i)):=by
 have HS:=hideR (LI.start h 71 #[.int .i64 0,.int .i64 0,.bool false])
 clear h
 obtain ⟨R,hR⟩:∃R,R=rlim s en i:=⟨_,rfl⟩
 rw [<- hR]
 have HR:=hideR hR
 clear hR
 go_enter Tryd.func30,Tryd.ntmps30
 have hc0:=dFlag w0 p s c en k i n (w.alloc (.cells #[.int .i64 0,.int .i64 0,.bool false] 71)) HS.out.rs
 have HC0:=hideR hc0
 clear hc0
 go_wp2_with fail
 refine HC0.out.mono ?_
 intro e u0 hr
 cases hx0:rflag s en i with
 | error z =>
  rw [hx0] at hr
  obtain ⟨rfl,hb⟩:=hr
  have HX0:=hideR hx0
  have hz:R=.error z:=by rw [HR.out];unfold rlim;simp only [bd_ok,bd_err,HX0.out,if_true,Bool.false_eq_true,if_false]
  exact ⟨rfl,by rw [hz];exact ⟨rfl,hb⟩⟩
 | ok v =>
  obtain ⟨z0,q0⟩:=v
  rw [hx0] at hr
  obtain ⟨⟨v0,rfl,hv0⟩,h1,h2⟩:=hr
  have hv0:v0=.bool z0:=hv0
  subst hv0
  have HX0:=hideR hx0
  have HS0:=hideR (HS.out.call h1 h2)
  clear h1 h2 hx0 HC0 HS
  have x2:=HS0.out.cell 2 _ rfl
  have y2:=HS0.out.frz 2
  have HS02:Hid (LI w0 w p s c en k q0 n 71 #[.int .i64 0,.int .i64 0,.bool z0] (u0.setCell ⟨w.heap.size,2,none⟩ (.bool z0))):=hideR (HS0.out.set 2 _)
  have hc1:=dUns w0 p s c en k q0 n (u0.setCell ⟨w.heap.size,2,none⟩ (.bool z0)) HS02.out.rs
  have HC1:=hideR hc1
  clear hc1
  go_wp2_with fail
  refine HC1.out.mono ?_
  intro e u1 hr
  cases hx1:ru s en q0 with
  | error z =>
   rw [hx1] at hr
   obtain ⟨rfl,hb⟩:=hr
   have HX1:=hideR hx1
   have hz:R=.error z:=by rw [HR.out];unfold rlim;simp only [bd_ok,bd_err,HX0.out,HX1.out,if_true,Bool.false_eq_true,if_false]
   exact ⟨rfl,by rw [hz];exact ⟨rfl,hb⟩⟩
  | ok v =>
   obtain ⟨z1,q1⟩:=v
   rw [hx1] at hr
   obtain ⟨⟨v1,rfl,hv1⟩,h1,h2⟩:=hr
   have hv1:v1=.int .i64 z1:=hv1
   subst hv1
   have HX1:=hideR hx1
   have HS1:=hideR (HS02.out.call h1 h2)
   clear h1 h2 hx1 HC1 HS02
   have x0:=HS1.out.cell 0 _ rfl
   have y0:=HS1.out.frz 0
   have HS10:Hid (LI w0 w p s c en k q1 n 71 #[.int .i64 z1,.int .i64 0,.bool z0] (u1.setCell ⟨w.heap.size,0,none⟩ (.int .i64 z1))):=hideR (HS1.out.set 0 _)
   have x2:=HS10.out.cell 2 _ rfl
   have y2:=HS10.out.frz 2
   cases z0 with
   | true =>
    have hc2:=dUns w0 p s c en k q1 n (u1.setCell ⟨w.heap.size,0,none⟩ (.int .i64 z1)) HS10.out.rs
    have HC2:=hideR hc2
    clear hc2
    go_wp2_with fail
    refine HC2.out.mono ?_
    intro e u2 hr
    cases hx2:ru s en q1 with
    | error z =>
     rw [hx2] at hr
     obtain ⟨rfl,hb⟩:=hr
     have HX2:=hideR hx2
     have hz:R=.error z:=by rw [HR.out];unfold rlim;simp only [bd_ok,bd_err,HX0.out,HX1.out,HX2.out,if_true,Bool.false_eq_true,if_false]
     exact ⟨rfl,by rw [hz];exact ⟨rfl,hb⟩⟩
    | ok v =>
     obtain ⟨z2,q2⟩:=v
     rw [hx2] at hr
     obtain ⟨⟨v2,rfl,hv2⟩,h1,h2⟩:=hr
     have hv2:v2=.int .i64 z2:=hv2
     subst hv2
     have HX2:=hideR hx2
     have HS2:=hideR (HS10.out.call h1 h2)
     clear h1 h2 hx2 HC2 HS10
     have x1:=HS2.out.cell 1 _ rfl
     have y1:=HS2.out.frz 1
     have HS21:Hid (LI w0 w p s c en k q2 n 71 #[.int .i64 z1,.int .i64 z2,.bool true] (u2.setCell ⟨w.heap.size,1,none⟩ (.int .i64 z2))):=hideR (HS2.out.set 1 _)
     have x0:=HS21.out.cell 0 _ rfl
     have y0:=HS21.out.frz 0
     have x1:=HS21.out.cell 1 _ rfl
     have y1:=HS21.out.frz 1
     have x2:=HS21.out.cell 2 _ rfl
     have y2:=HS21.out.frz 2
     go_wp2
     have HT0:Hid (LI w0 w p s c en k q2 n 71 #[.int .i64 z1,.int .i64 z2,.bool true] ((u2.setCell ⟨w.heap.size,1,none⟩ (.int .i64 z2)).setCell ⟨w.heap.size,0,none⟩ (.int .i64 z1))):=hideR (HS21.out.set 0 _)
     have HT1:Hid (LI w0 w p s c en k q2 n 71 #[.int .i64 z1,.int .i64 z2,.bool true] (((u2.setCell ⟨w.heap.size,1,none⟩ (.int .i64 z2)).setCell ⟨w.heap.size,0,none⟩ (.int .i64 z1)).setCell ⟨w.heap.size,1,none⟩ (.int .i64 z2))):=hideR (HT0.out.set 1 _)
     have HT2:Hid (LI w0 w p s c en k q2 n 71 #[.int .i64 z1,.int .i64 z2,.bool true] ((((u2.setCell ⟨w.heap.size,1,none⟩ (.int .i64 z2)).setCell ⟨w.heap.size,0,none⟩ (.int .i64 z1)).setCell ⟨w.heap.size,1,none⟩ (.int .i64 z2)).setCell ⟨w.heap.size,2,none⟩ (.bool true))):=hideR (HT1.out.set 2 _)
     have t0:=HT2.out.cell 0 _ rfl
     have t1:=HT2.out.cell 1 _ rfl
     have t2:=HT2.out.cell 2 _ rfl
     have hz:R=.ok (⟨z1,z2,true⟩,q2):=by rw [HR.out];unfold rlim;simp only [bd_ok,bd_err,HX0.out,HX1.out,HX2.out,if_true,Bool.false_eq_true,if_false]
     rw [hz]
     exact bodyPost_ret (v:=.agg #[.int .i64 z1,.int .i64 z2,.bool true]) (by simp [results,Tryd.results30,go_sem,t0,t1,t2]) rfl ⟨⟨_,rfl,rfl,rfl⟩,HT2.out.rs,HT2.out.but⟩
   | false =>
    have x0:=HS10.out.cell 0 _ rfl
    have y0:=HS10.out.frz 0
    have x1:=HS10.out.cell 1 _ rfl
    have y1:=HS10.out.frz 1
    have x2:=HS10.out.cell 2 _ rfl
    have y2:=HS10.out.frz 2
    go_wp2
    have HT0:Hid (LI w0 w p s c en k q1 n 71 #[.int .i64 z1,.int .i64 0,.bool false] ((u1.setCell ⟨w.heap.size,0,none⟩ (.int .i64 z1)).setCell ⟨w.heap.size,0,none⟩ (.int .i64 z1))):=hideR (HS10.out.set 0 _)
    have HT1:Hid (LI w0 w p s c en k q1 n 71 #[.int .i64 z1,.int .i64 0,.bool false] (((u1.setCell ⟨w.heap.size,0,none⟩ (.int .i64 z1)).setCell ⟨w.heap.size,0,none⟩ (.int .i64 z1)).setCell ⟨w.heap.size,1,none⟩ (.int .i64 0))):=hideR (HT0.out.set 1 _)
    have HT2:Hid (LI w0 w p s c en k q1 n 71 #[.int .i64 z1,.int .i64 0,.bool false] ((((u1.setCell ⟨w.heap.size,0,none⟩ (.int .i64 z1)).setCell ⟨w.heap.size,0,none⟩ (.int .i64 z1)).setCell ⟨w.heap.size,1,none⟩ (.int .i64 0)).setCell ⟨w.heap.size,2,none⟩ (.bool false))):=hideR (HT1.out.set 2 _)
    have t0:=HT2.out.cell 0 _ rfl
    have t1:=HT2.out.cell 1 _ rfl
    have t2:=HT2.out.cell 2 _ rfl
    have hz:R=.ok (⟨z1,0,false⟩,q1):=by rw [HR.out];unfold rlim;simp only [bd_ok,bd_err,HX0.out,HX1.out,if_true,Bool.false_eq_true,if_false]
    rw [hz]
    exact bodyPost_ret (v:=.agg #[.int .i64 z1,.int .i64 0,.bool false]) (by simp [results,Tryd.results30,go_sem,t0,t1,t2]) rfl ⟨⟨_,rfl,rfl,rfl⟩,HT2.out.rs,HT2.out.but⟩
set_option maxRecDepth 100000 in
set_option maxHeartbeats 4000000 in
theorem dFT:Calls Tryd.prog 23 #[.pointer (some ⟨p,0,none⟩)] w (Rds w0 p s c en k n (vFT kFT w.heap.size) w (rft s en i)):=by
 have HS:=hideR (LI.start h 58 #[.slice none 0 0,.slice none 0 0])
 clear h
 obtain ⟨R,hR⟩:∃R,R=rft s en i:=⟨_,rfl⟩
 rw [<- hR]
 have HR:=hideR hR
 clear hR
 go_enter Tryd.func23,Tryd.ntmps23
 have hc0:=dMust w0 p s c en k i n (w.alloc (.cells #[.slice none 0 0,.slice none 0 0] 58)) HS.out.rs 96
 have HC0:=hideR hc0
 clear hc0
 go_wp2_with fail
 refine HC0.out.mono ?_
 intro e u0 hr
 cases hx0:must s en 96 i with
 | error z =>
  rw [hx0] at hr
  obtain ⟨rfl,hb⟩:=hr
  have HX0:=hideR hx0
  have hz:R=.error z:=by rw [HR.out];unfold rft;simp only [bd_ok,bd_err,HX0.out,if_true,Bool.false_eq_true,if_false]
  exact ⟨rfl,by rw [hz];exact ⟨rfl,hb⟩⟩
 | ok v =>
  obtain ⟨z0,q0⟩:=v
  rw [hx0] at hr
  obtain ⟨⟨v0,rfl,hv0⟩,h1,h2⟩:=hr
  have hv0:v0=.tuple #[]:=hv0
  subst hv0
  have HX0:=hideR hx0
  have HS0:=hideR (HS.out.call h1 h2)
  clear h1 h2 hx0 HC0 HS
  have hc1:=dTys w0 p s c en k q0 n u0 HS0.out.rs
  have HC1:=hideR hc1
  clear hc1
  go_wp2_with fail
  refine HC1.out.mono ?_
  intro e u1 hr
  cases hx1:rlt s en q0 with
  | error z =>
   rw [hx1] at hr
   obtain ⟨rfl,hb⟩:=hr
   have HX1:=hideR hx1
   have hz:R=.error z:=by rw [HR.out];unfold rft;simp only [bd_ok,bd_err,HX0.out,HX1.out,if_true,Bool.false_eq_true,if_false]
   exact ⟨rfl,by rw [hz];exact ⟨rfl,hb⟩⟩
  | ok v =>
   obtain ⟨z1,q1⟩:=v
   rw [hx1] at hr
   obtain ⟨⟨v1,rfl,hv1⟩,h1,h2⟩:=hr
   have hv1:IntsS u1 (Since u0.heap.size u1 none) v1 z1:=hv1
   have HL1:=hideR (hv1.keep (keep_in w u1 (by simpa using HS0.out.lt)))
   obtain ⟨o1,k1,rfl⟩:=Row.len hv1
   clear hv1
   have HX1:=hideR hx1
   have HS1:=hideR (HS0.out.call h1 h2)
   clear h1 h2 hx1 HC1 HS0
   have x0:=HS1.out.cell 0 _ rfl
   have y0:=HS1.out.frz 0
   have HS10:Hid (LI w0 w p s c en k q1 n 58 #[.slice o1 z1.length k1,.slice none 0 0] (u1.setCell ⟨w.heap.size,0,none⟩ (.slice o1 z1.length k1))):=hideR (HS1.out.set 0 _)
   have HL1s0:=hideR (IntsS.keep (keep_set w u1 0 (.slice o1 z1.length k1)) HL1.out)
   clear HL1
   have hc2:=dTys w0 p s c en k q1 n (u1.setCell ⟨w.heap.size,0,none⟩ (.slice o1 z1.length k1)) HS10.out.rs
   have HC2:=hideR hc2
   clear hc2
   go_wp2_with fail
   refine HC2.out.mono ?_
   intro e u2 hr
   cases hx2:rlt s en q1 with
   | error z =>
    rw [hx2] at hr
    obtain ⟨rfl,hb⟩:=hr
    have HX2:=hideR hx2
    have hz:R=.error z:=by rw [HR.out];unfold rft;simp only [bd_ok,bd_err,HX0.out,HX1.out,HX2.out,if_true,Bool.false_eq_true,if_false]
    exact ⟨rfl,by rw [hz];exact ⟨rfl,hb⟩⟩
   | ok v =>
    obtain ⟨z2,q2⟩:=v
    rw [hx2] at hr
    obtain ⟨⟨v2,rfl,hv2⟩,h1,h2⟩:=hr
    have HL1s0k2:=hideR (IntsS.keep (HS10.out.kept h2) HL1s0.out)
    clear HL1s0
    have hv2:IntsS u2 (Since (u1.setCell ⟨w.heap.size,0,none⟩ (.slice o1 z1.length k1)).heap.size u2 none) v2 z2:=hv2
    have HL2:=hideR (hv2.keep (keep_in w u2 (by simpa using HS10.out.lt)))
    obtain ⟨o2,k2,rfl⟩:=Row.len hv2
    clear hv2
    have HX2:=hideR hx2
    have HS2:=hideR (HS10.out.call h1 h2)
    clear h1 h2 hx2 HC2 HS10
    have x1:=HS2.out.cell 1 _ rfl
    have y1:=HS2.out.frz 1
    have HS21:Hid (LI w0 w p s c en k q2 n 58 #[.slice o1 z1.length k1,.slice o2 z2.length k2] (u2.setCell ⟨w.heap.size,1,none⟩ (.slice o2 z2.length k2))):=hideR (HS2.out.set 1 _)
    have HL1s0k2s1:=hideR (IntsS.keep (keep_set w u2 1 (.slice o2 z2.length k2)) HL1s0k2.out)
    clear HL1s0k2
    have HL2s1:=hideR (IntsS.keep (keep_set w u2 1 (.slice o2 z2.length k2)) HL2.out)
    clear HL2
    have x0:=HS21.out.cell 0 _ rfl
    have y0:=HS21.out.frz 0
    have x1:=HS21.out.cell 1 _ rfl
    have y1:=HS21.out.frz 1
    go_wp2
    have HT0:Hid (LI w0 w p s c en k q2 n 58 #[.slice o1 z1.length k1,.slice o2 z2.length k2] ((u2.setCell ⟨w.heap.size,1,none⟩ (.slice o2 z2.length k2)).setCell ⟨w.heap.size,0,none⟩ (.slice o1 z1.length k1))):=hideR (HS21.out.set 0 _)
    have HL1s0k2s1s0:=hideR (IntsS.keep (keep_set w (u2.setCell ⟨w.heap.size,1,none⟩ (.slice o2 z2.length k2)) 0 (.slice o1 z1.length k1)) HL1s0k2s1.out)
    clear HL1s0k2s1
    have HL2s1s0:=hideR (IntsS.keep (keep_set w (u2.setCell ⟨w.heap.size,1,none⟩ (.slice o2 z2.length k2)) 0 (.slice o1 z1.length k1)) HL2s1.out)
    clear HL2s1
    have HT1:Hid (LI w0 w p s c en k q2 n 58 #[.slice o1 z1.length k1,.slice o2 z2.length k2] (((u2.setCell ⟨w.heap.size,1,none⟩ (.slice o2 z2.length k2)).setCell ⟨w.heap.size,0,none⟩ (.slice o1 z1.length k1)).setCell ⟨w.heap.size,1,none⟩ (.slice o2 z2.length k2))):=hideR (HT0.out.set 1 _)
    have HL1s0k2s1s0s1:=hideR (IntsS.keep (keep_set w ((u2.setCell ⟨w.heap.size,1,none⟩ (.slice o2 z2.length k2)).setCell ⟨w.heap.size,0,none⟩ (.slice o1 z1.length k1)) 1 (.slice o2 z2.length k2)) HL1s0k2s1s0.out)
    clear HL1s0k2s1s0
    have HL2s1s0s1:=hideR (IntsS.keep (keep_set w ((u2.setCell ⟨w.heap.size,1,none⟩ (.slice o2 z2.length k2)).setCell ⟨w.heap.size,0,none⟩ (.slice o1 z1.length k1)) 1 (.slice o2 z2.length k2)) HL2s1s0.out)
    clear HL2s1s0
    have t0:=HT1.out.cell 0 _ rfl
    have t1:=HT1.out.cell 1 _ rfl
    have hz:R=.ok (⟨z1,z2⟩,q2):=by rw [HR.out];unfold rft;simp only [bd_ok,bd_err,HX0.out,HX1.out,HX2.out,if_true,Bool.false_eq_true,if_false]
    rw [hz]
    exact bodyPost_ret (v:=.agg #[.slice o1 z1.length k1,.slice o2 z2.length k2]) (by simp [results,Tryd.results23,go_sem,t0,t1]) rfl ⟨⟨_,rfl,_,_,_,_,_,_,rfl,_,_,rfl,(IntsS.keep (keep_out w _) HL1s0k2s1s0s1.out),(IntsS.keep (keep_out w _) HL2s1s0s1.out)⟩,HT1.out.rs,HT1.out.but⟩
set_option maxRecDepth 100000 in
set_option maxHeartbeats 4000000 in
theorem dImp (hU:∀u,Below w0.heap.size w0 u->UtfI u):Calls Tryd.prog 25 #[.pointer (some ⟨p,0,none⟩)] w (Rds w0 p s c en k n (vImp kImp w.heap.size) w (rimp s en i)):=by
 have HS:=hideR (LI.start h 62 #[.string ByteArray.empty,.string ByteArray.empty,.int .i64 0])
 have HU:=hideR hU
 clear h hU
 obtain ⟨R,hR⟩:∃R,R=rimp s en i:=⟨_,rfl⟩
 rw [<- hR]
 have HR:=hideR hR
 clear hR
 go_enter Tryd.func25,Tryd.ntmps25
 have hc0:=dName w0 p s c en k i n (w.alloc (.cells #[.string ByteArray.empty,.string ByteArray.empty,.int .i64 0] 62)) HS.out.rs HU.out
 have HC0:=hideR hc0
 clear hc0
 go_wp2_with fail
 refine HC0.out.mono ?_
 intro e u0 hr
 cases hx0:rname s en i with
 | error z =>
  rw [hx0] at hr
  obtain ⟨rfl,hb⟩:=hr
  have HX0:=hideR hx0
  have hz:R=.error z:=by rw [HR.out];unfold rimp;simp only [bd_ok,bd_err,HX0.out,if_true,Bool.false_eq_true,if_false]
  exact ⟨rfl,by rw [hz];exact ⟨rfl,hb⟩⟩
 | ok v =>
  obtain ⟨z0,q0⟩:=v
  rw [hx0] at hr
  obtain ⟨⟨v0,rfl,hv0⟩,h1,h2⟩:=hr
  have hv0:v0=.string z0:=hv0
  subst hv0
  have HX0:=hideR hx0
  have HS0:=hideR (HS.out.call h1 h2)
  clear h1 h2 hx0 HC0 HS
  have x0:=HS0.out.cell 0 _ rfl
  have y0:=HS0.out.frz 0
  have HS00:Hid (LI w0 w p s c en k q0 n 62 #[.string z0,.string ByteArray.empty,.int .i64 0] (u0.setCell ⟨w.heap.size,0,none⟩ (.string z0))):=hideR (HS0.out.set 0 _)
  have hc1:=dName w0 p s c en k q0 n (u0.setCell ⟨w.heap.size,0,none⟩ (.string z0)) HS00.out.rs HU.out
  have HC1:=hideR hc1
  clear hc1
  go_wp2_with fail
  refine HC1.out.mono ?_
  intro e u1 hr
  cases hx1:rname s en q0 with
  | error z =>
   rw [hx1] at hr
   obtain ⟨rfl,hb⟩:=hr
   have HX1:=hideR hx1
   have hz:R=.error z:=by rw [HR.out];unfold rimp;simp only [bd_ok,bd_err,HX0.out,HX1.out,if_true,Bool.false_eq_true,if_false]
   exact ⟨rfl,by rw [hz];exact ⟨rfl,hb⟩⟩
  | ok v =>
   obtain ⟨z1,q1⟩:=v
   rw [hx1] at hr
   obtain ⟨⟨v1,rfl,hv1⟩,h1,h2⟩:=hr
   have hv1:v1=.string z1:=hv1
   subst hv1
   have HX1:=hideR hx1
   have HS1:=hideR (HS00.out.call h1 h2)
   clear h1 h2 hx1 HC1 HS00
   have x1:=HS1.out.cell 1 _ rfl
   have y1:=HS1.out.frz 1
   have HS11:Hid (LI w0 w p s c en k q1 n 62 #[.string z0,.string z1,.int .i64 0] (u1.setCell ⟨w.heap.size,1,none⟩ (.string z1))):=hideR (HS1.out.set 1 _)
   have hc2:=dMust w0 p s c en k q1 n (u1.setCell ⟨w.heap.size,1,none⟩ (.string z1)) HS11.out.rs 0
   have HC2:=hideR hc2
   clear hc2
   go_wp2_with fail
   refine HC2.out.mono ?_
   intro e u2 hr
   cases hx2:must s en 0 q1 with
   | error z =>
    rw [hx2] at hr
    obtain ⟨rfl,hb⟩:=hr
    have HX2:=hideR hx2
    have hz:R=.error z:=by rw [HR.out];unfold rimp;simp only [bd_ok,bd_err,HX0.out,HX1.out,HX2.out,if_true,Bool.false_eq_true,if_false]
    exact ⟨rfl,by rw [hz];exact ⟨rfl,hb⟩⟩
   | ok v =>
    obtain ⟨z2,q2⟩:=v
    rw [hx2] at hr
    obtain ⟨⟨v2,rfl,hv2⟩,h1,h2⟩:=hr
    have hv2:v2=.tuple #[]:=hv2
    subst hv2
    have HX2:=hideR hx2
    have HS2:=hideR (HS11.out.call h1 h2)
    clear h1 h2 hx2 HC2 HS11
    have hc3:=dUns w0 p s c en k q2 n u2 HS2.out.rs
    have HC3:=hideR hc3
    clear hc3
    go_wp2_with fail
    refine HC3.out.mono ?_
    intro e u3 hr
    cases hx3:ru s en q2 with
    | error z =>
     rw [hx3] at hr
     obtain ⟨rfl,hb⟩:=hr
     have HX3:=hideR hx3
     have hz:R=.error z:=by rw [HR.out];unfold rimp;simp only [bd_ok,bd_err,HX0.out,HX1.out,HX2.out,HX3.out,if_true,Bool.false_eq_true,if_false]
     exact ⟨rfl,by rw [hz];exact ⟨rfl,hb⟩⟩
    | ok v =>
     obtain ⟨z3,q3⟩:=v
     rw [hx3] at hr
     obtain ⟨⟨v3,rfl,hv3⟩,h1,h2⟩:=hr
     have hv3:v3=.int .i64 z3:=hv3
     subst hv3
     have HX3:=hideR hx3
     have HS3:=hideR (HS2.out.call h1 h2)
     clear h1 h2 hx3 HC3 HS2
     have x2:=HS3.out.cell 2 _ rfl
     have y2:=HS3.out.frz 2
     have HS32:Hid (LI w0 w p s c en k q3 n 62 #[.string z0,.string z1,.int .i64 z3] (u3.setCell ⟨w.heap.size,2,none⟩ (.int .i64 z3))):=hideR (HS3.out.set 2 _)
     have x0:=HS32.out.cell 0 _ rfl
     have y0:=HS32.out.frz 0
     have x1:=HS32.out.cell 1 _ rfl
     have y1:=HS32.out.frz 1
     have x2:=HS32.out.cell 2 _ rfl
     have y2:=HS32.out.frz 2
     go_wp2
     have HT0:Hid (LI w0 w p s c en k q3 n 62 #[.string z0,.string z1,.int .i64 z3] ((u3.setCell ⟨w.heap.size,2,none⟩ (.int .i64 z3)).setCell ⟨w.heap.size,0,none⟩ (.string z0))):=hideR (HS32.out.set 0 _)
     have HT1:Hid (LI w0 w p s c en k q3 n 62 #[.string z0,.string z1,.int .i64 z3] (((u3.setCell ⟨w.heap.size,2,none⟩ (.int .i64 z3)).setCell ⟨w.heap.size,0,none⟩ (.string z0)).setCell ⟨w.heap.size,1,none⟩ (.string z1))):=hideR (HT0.out.set 1 _)
     have HT2:Hid (LI w0 w p s c en k q3 n 62 #[.string z0,.string z1,.int .i64 z3] ((((u3.setCell ⟨w.heap.size,2,none⟩ (.int .i64 z3)).setCell ⟨w.heap.size,0,none⟩ (.string z0)).setCell ⟨w.heap.size,1,none⟩ (.string z1)).setCell ⟨w.heap.size,2,none⟩ (.int .i64 z3))):=hideR (HT1.out.set 2 _)
     have t0:=HT2.out.cell 0 _ rfl
     have t1:=HT2.out.cell 1 _ rfl
     have t2:=HT2.out.cell 2 _ rfl
     have hz:R=.ok (⟨z0,z1,z3⟩,q3):=by rw [HR.out];unfold rimp;simp only [bd_ok,bd_err,HX0.out,HX1.out,HX2.out,HX3.out,if_true,Bool.false_eq_true,if_false]
     rw [hz]
     exact bodyPost_ret (v:=.agg #[.string z0,.string z1,.int .i64 z3]) (by simp [results,Tryd.results25,go_sem,t0,t1,t2]) rfl ⟨⟨_,rfl,rfl,rfl⟩,HT2.out.rs,HT2.out.but⟩
set_option maxRecDepth 100000 in
set_option maxHeartbeats 4000000 in
theorem dExp (hU:∀u,Below w0.heap.size w0 u->UtfI u):Calls Tryd.prog 34 #[.pointer (some ⟨p,0,none⟩)] w (Rds w0 p s c en k n (vExp kExp w.heap.size) w (rexp s en i)):=by
 have HS:=hideR (LI.start h 81 #[.string ByteArray.empty,.int .i64 0,.int .i64 0])
 have HU:=hideR hU
 clear h hU
 obtain ⟨R,hR⟩:∃R,R=rexp s en i:=⟨_,rfl⟩
 rw [<- hR]
 have HR:=hideR hR
 clear hR
 go_enter Tryd.func34,Tryd.ntmps34
 have hc0:=dName w0 p s c en k i n (w.alloc (.cells #[.string ByteArray.empty,.int .i64 0,.int .i64 0] 81)) HS.out.rs HU.out
 have HC0:=hideR hc0
 clear hc0
 go_wp2_with fail
 refine HC0.out.mono ?_
 intro e u0 hr
 cases hx0:rname s en i with
 | error z =>
  rw [hx0] at hr
  obtain ⟨rfl,hb⟩:=hr
  have HX0:=hideR hx0
  have hz:R=.error z:=by rw [HR.out];unfold rexp;simp only [bd_ok,bd_err,HX0.out,if_true,Bool.false_eq_true,if_false]
  exact ⟨rfl,by rw [hz];exact ⟨rfl,hb⟩⟩
 | ok v =>
  obtain ⟨z0,q0⟩:=v
  rw [hx0] at hr
  obtain ⟨⟨v0,rfl,hv0⟩,h1,h2⟩:=hr
  have hv0:v0=.string z0:=hv0
  subst hv0
  have HX0:=hideR hx0
  have HS0:=hideR (HS.out.call h1 h2)
  clear h1 h2 hx0 HC0 HS
  have x0:=HS0.out.cell 0 _ rfl
  have y0:=HS0.out.frz 0
  have HS00:Hid (LI w0 w p s c en k q0 n 81 #[.string z0,.int .i64 0,.int .i64 0] (u0.setCell ⟨w.heap.size,0,none⟩ (.string z0))):=hideR (HS0.out.set 0 _)
  have hc1:=dNext w0 p s c en k q0 n (u0.setCell ⟨w.heap.size,0,none⟩ (.string z0)) HS00.out.rs
  have HC1:=hideR hc1
  clear hc1
  go_wp2_with fail
  refine HC1.out.mono ?_
  intro e u1 hr
  cases hx1:nx s en q0 with
  | error z =>
   rw [hx1] at hr
   obtain ⟨rfl,hb⟩:=hr
   have HX1:=hideR hx1
   have hz:R=.error z:=by rw [HR.out];unfold rexp;simp only [bd_ok,bd_err,HX0.out,HX1.out,if_true,Bool.false_eq_true,if_false]
   exact ⟨rfl,by rw [hz];exact ⟨rfl,hb⟩⟩
  | ok v =>
   obtain ⟨z1,q1⟩:=v
   rw [hx1] at hr
   obtain ⟨⟨v1,rfl,hv1⟩,h1,h2⟩:=hr
   have hv1:v1=.int .i64 z1:=hv1
   subst hv1
   have HX1:=hideR hx1
   have HS1:=hideR (HS00.out.call h1 h2)
   clear h1 h2 hx1 HC1 HS00
   have x1:=HS1.out.cell 1 _ rfl
   have y1:=HS1.out.frz 1
   have HS11:Hid (LI w0 w p s c en k q1 n 81 #[.string z0,.int .i64 z1,.int .i64 0] (u1.setCell ⟨w.heap.size,1,none⟩ (.int .i64 z1))):=hideR (HS1.out.set 1 _)
   by_cases hb3:z1<=3
   ·have qb:decide (z1<=(3:Int))=true:=decide_eq_true hb3
    have HX9:Hid ((z1<=3)=True):=hideR (eq_true hb3)
    clear hb3
    go_wp2_with fail
    refine (needY _ _).mono ?_
    rintro e uy ⟨rfl,rfl⟩
    have hc2:=dUns w0 p s c en k q1 n (u1.setCell ⟨w.heap.size,1,none⟩ (.int .i64 z1)) HS11.out.rs
    have HC2:=hideR hc2
    clear hc2
    go_wp2_with fail
    refine HC2.out.mono ?_
    intro e u2 hr
    cases hx2:ru s en q1 with
    | error z =>
     rw [hx2] at hr
     obtain ⟨rfl,hb⟩:=hr
     have HX2:=hideR hx2
     have hz:R=.error z:=by rw [HR.out];unfold rexp;simp only [bd_ok,bd_err,HX0.out,HX1.out,HX9.out,HX2.out,if_true,Bool.false_eq_true,if_false]
     exact ⟨rfl,by rw [hz];exact ⟨rfl,hb⟩⟩
    | ok v =>
     obtain ⟨z2,q2⟩:=v
     rw [hx2] at hr
     obtain ⟨⟨v2,rfl,hv2⟩,h1,h2⟩:=hr
     have hv2:v2=.int .i64 z2:=hv2
     subst hv2
     have HX2:=hideR hx2
     have HS2:=hideR (HS11.out.call h1 h2)
     clear h1 h2 hx2 HC2 HS11
     have x2:=HS2.out.cell 2 _ rfl
     have y2:=HS2.out.frz 2
     have HS22:Hid (LI w0 w p s c en k q2 n 81 #[.string z0,.int .i64 z1,.int .i64 z2] (u2.setCell ⟨w.heap.size,2,none⟩ (.int .i64 z2))):=hideR (HS2.out.set 2 _)
     have x0:=HS22.out.cell 0 _ rfl
     have y0:=HS22.out.frz 0
     have x1:=HS22.out.cell 1 _ rfl
     have y1:=HS22.out.frz 1
     have x2:=HS22.out.cell 2 _ rfl
     have y2:=HS22.out.frz 2
     go_wp2
     have HT0:Hid (LI w0 w p s c en k q2 n 81 #[.string z0,.int .i64 z1,.int .i64 z2] ((u2.setCell ⟨w.heap.size,2,none⟩ (.int .i64 z2)).setCell ⟨w.heap.size,0,none⟩ (.string z0))):=hideR (HS22.out.set 0 _)
     have HT1:Hid (LI w0 w p s c en k q2 n 81 #[.string z0,.int .i64 z1,.int .i64 z2] (((u2.setCell ⟨w.heap.size,2,none⟩ (.int .i64 z2)).setCell ⟨w.heap.size,0,none⟩ (.string z0)).setCell ⟨w.heap.size,1,none⟩ (.int .i64 z1))):=hideR (HT0.out.set 1 _)
     have HT2:Hid (LI w0 w p s c en k q2 n 81 #[.string z0,.int .i64 z1,.int .i64 z2] ((((u2.setCell ⟨w.heap.size,2,none⟩ (.int .i64 z2)).setCell ⟨w.heap.size,0,none⟩ (.string z0)).setCell ⟨w.heap.size,1,none⟩ (.int .i64 z1)).setCell ⟨w.heap.size,2,none⟩ (.int .i64 z2))):=hideR (HT1.out.set 2 _)
     have t0:=HT2.out.cell 0 _ rfl
     have t1:=HT2.out.cell 1 _ rfl
     have t2:=HT2.out.cell 2 _ rfl
     have hz:R=.ok (⟨z0,z1,z2⟩,q2):=by rw [HR.out];unfold rexp;simp only [bd_ok,bd_err,HX0.out,HX1.out,HX9.out,HX2.out,if_true,Bool.false_eq_true,if_false]
     rw [hz]
     exact bodyPost_ret (v:=.agg #[.string z0,.int .i64 z1,.int .i64 z2]) (by simp [results,Tryd.results34,go_sem,t0,t1,t2]) rfl ⟨⟨_,rfl,rfl,rfl⟩,HT2.out.rs,HT2.out.but⟩
   ·have qb:decide (z1<=(3:Int))=false:=decide_eq_false hb3
    have HX9:Hid ((z1<=3)=False):=hideR (eq_false hb3)
    clear hb3
    have HB:=hideR HS11.out.rs.below
    go_wp2_with fail
    refine (needN _ _).mono ?_
    rintro e uy ⟨rfl,rfl⟩
    have hz:R=.error 50:=by rw [HR.out];unfold rexp;simp only [bd_ok,bd_err,HX0.out,HX1.out,HX9.out,if_true,Bool.false_eq_true,if_false]
    exact ⟨rfl,by rw [hz];exact ⟨rfl,HB.out⟩⟩
set_option maxRecDepth 100000 in
set_option maxHeartbeats 4000000 in
theorem dFty:Calls Tryd.prog 27 #[.pointer (some ⟨p,0,none⟩)] w (Rds w0 p s c en k n (vFty kFty w.heap.size) w (rfty s en i)):=by
 have HS:=hideR (LI.start h 67 #[.int .i64 0,.slice none 0 0,.slice none 0 0])
 clear h
 obtain ⟨R,hR⟩:∃R,R=rfty s en i:=⟨_,rfl⟩
 rw [<- hR]
 have HR:=hideR hR
 clear hR
 go_enter Tryd.func27,Tryd.ntmps27
 have hc0:=dUns w0 p s c en k i n (w.alloc (.cells #[.int .i64 0,.slice none 0 0,.slice none 0 0] 67)) HS.out.rs
 have HC0:=hideR hc0
 clear hc0
 go_wp2_with fail
 refine HC0.out.mono ?_
 intro e u0 hr
 cases hx0:ru s en i with
 | error z =>
  rw [hx0] at hr
  obtain ⟨rfl,hb⟩:=hr
  have HX0:=hideR hx0
  have hz:R=.error z:=by rw [HR.out];unfold rfty;simp only [bd_ok,bd_err,HX0.out,if_true,Bool.false_eq_true,if_false]
  exact ⟨rfl,by rw [hz];exact ⟨rfl,hb⟩⟩
 | ok v =>
  obtain ⟨z0,q0⟩:=v
  rw [hx0] at hr
  obtain ⟨⟨v0,rfl,hv0⟩,h1,h2⟩:=hr
  have hv0:v0=.int .i64 z0:=hv0
  subst hv0
  have HX0:=hideR hx0
  have HS0:=hideR (HS.out.call h1 h2)
  clear h1 h2 hx0 HC0 HS
  have x0:=HS0.out.cell 0 _ rfl
  have y0:=HS0.out.frz 0
  have x1:=HS0.out.cell 1 _ rfl
  have y1:=HS0.out.frz 1
  have x2:=HS0.out.cell 2 _ rfl
  have y2:=HS0.out.frz 2
  go_wp2
  have HT0:Hid (LI w0 w p s c en k q0 n 67 #[.int .i64 z0,.slice none 0 0,.slice none 0 0] (u0.setCell ⟨w.heap.size,0,none⟩ (.int .i64 z0))):=hideR (HS0.out.set 0 _)
  have HT1:Hid (LI w0 w p s c en k q0 n 67 #[.int .i64 z0,.slice none 0 0,.slice none 0 0] ((u0.setCell ⟨w.heap.size,0,none⟩ (.int .i64 z0)).setCell ⟨w.heap.size,1,none⟩ (.slice none 0 0))):=hideR (HT0.out.set 1 _)
  have HT2:Hid (LI w0 w p s c en k q0 n 67 #[.int .i64 z0,.slice none 0 0,.slice none 0 0] (((u0.setCell ⟨w.heap.size,0,none⟩ (.int .i64 z0)).setCell ⟨w.heap.size,1,none⟩ (.slice none 0 0)).setCell ⟨w.heap.size,2,none⟩ (.slice none 0 0))):=hideR (HT1.out.set 2 _)
  have t0:=HT2.out.cell 0 _ rfl
  have t1:=HT2.out.cell 1 _ rfl
  have t2:=HT2.out.cell 2 _ rfl
  have hz:R=.ok (z0,q0):=by rw [HR.out];unfold rfty;simp only [bd_ok,bd_err,HX0.out,if_true,Bool.false_eq_true,if_false]
  rw [hz]
  exact bodyPost_ret (v:=.agg #[.int .i64 z0,.slice none 0 0,.slice none 0 0]) (by simp [results,Tryd.results27,go_sem,t0,t1,t2]) rfl ⟨⟨_,rfl,rfl,rfl⟩,HT2.out.rs,HT2.out.but⟩
set_option maxRecDepth 100000 in
set_option maxHeartbeats 4000000 in
theorem dTab:Calls Tryd.prog 29 #[.pointer (some ⟨p,0,none⟩)] w (Rds w0 p s c en k n (vLim kLim w.heap.size) w (rtab s en i)):=by
 have HS:=hideR (LI.start h 71 #[.int .i64 0,.int .i64 0,.bool false])
 clear h
 obtain ⟨R,hR⟩:∃R,R=rtab s en i:=⟨_,rfl⟩
 rw [<- hR]
 have HR:=hideR hR
 clear hR
 go_enter Tryd.func29,Tryd.ntmps29
 have hc0:=dMust w0 p s c en k i n (w.alloc (.cells #[.int .i64 0,.int .i64 0,.bool false] 71)) HS.out.rs 112
 have HC0:=hideR hc0
 clear hc0
 go_wp2_with fail
 refine HC0.out.mono ?_
 intro e u0 hr
 cases hx0:must s en 112 i with
 | error z =>
  rw [hx0] at hr
  obtain ⟨rfl,hb⟩:=hr
  have HX0:=hideR hx0
  have hz:R=.error z:=by rw [HR.out];unfold rtab;simp only [bd_ok,bd_err,HX0.out,if_true,Bool.false_eq_true,if_false]
  exact ⟨rfl,by rw [hz];exact ⟨rfl,hb⟩⟩
 | ok v =>
  obtain ⟨z0,q0⟩:=v
  rw [hx0] at hr
  obtain ⟨⟨v0,rfl,hv0⟩,h1,h2⟩:=hr
  have hv0:v0=.tuple #[]:=hv0
  subst hv0
  have HX0:=hideR hx0
  have HS0:=hideR (HS.out.call h1 h2)
  clear h1 h2 hx0 HC0 HS
  have hc1:=dLim w0 p s c en k q0 n u0 HS0.out.rs
  have HC1:=hideR hc1
  clear hc1
  go_wp2_with fail
  refine HC1.out.mono ?_
  intro e u1 hr
  cases hx1:rlim s en q0 with
  | error z =>
   rw [hx1] at hr
   obtain ⟨rfl,hb⟩:=hr
   have HX1:=hideR hx1
   have hz:R=.error z:=by rw [HR.out];unfold rtab;simp only [bd_ok,bd_err,HX0.out,HX1.out,if_true,Bool.false_eq_true,if_false]
   exact ⟨rfl,by rw [hz];exact ⟨rfl,hb⟩⟩
  | ok v =>
   obtain ⟨z1,q1⟩:=v
   rw [hx1] at hr
   obtain ⟨⟨v1,rfl,hv1⟩,h1,h2⟩:=hr
   have hv1:v1=.agg #[.int .i64 z1.min,.int .i64 z1.max,.bool z1.has]:=hv1.1
   subst hv1
   have HX1:=hideR hx1
   have HS1:=hideR (HS0.out.call h1 h2)
   clear h1 h2 hx1 HC1 HS0
   have x0:=HS1.out.cell 0 _ rfl
   have y0:=HS1.out.frz 0
   have x1:=HS1.out.cell 1 _ rfl
   have y1:=HS1.out.frz 1
   have x2:=HS1.out.cell 2 _ rfl
   have y2:=HS1.out.frz 2
   go_wp2
   have HT0:Hid (LI w0 w p s c en k q1 n 71 #[.int .i64 z1.min,.int .i64 0,.bool false] (u1.setCell ⟨w.heap.size,0,none⟩ (.int .i64 z1.min))):=hideR (HS1.out.set 0 _)
   have HT1:Hid (LI w0 w p s c en k q1 n 71 #[.int .i64 z1.min,.int .i64 z1.max,.bool false] ((u1.setCell ⟨w.heap.size,0,none⟩ (.int .i64 z1.min)).setCell ⟨w.heap.size,1,none⟩ (.int .i64 z1.max))):=hideR (HT0.out.set 1 _)
   have HT2:Hid (LI w0 w p s c en k q1 n 71 #[.int .i64 z1.min,.int .i64 z1.max,.bool z1.has] (((u1.setCell ⟨w.heap.size,0,none⟩ (.int .i64 z1.min)).setCell ⟨w.heap.size,1,none⟩ (.int .i64 z1.max)).setCell ⟨w.heap.size,2,none⟩ (.bool z1.has))):=hideR (HT1.out.set 2 _)
   have t0:=HT2.out.cell 0 _ rfl
   have t1:=HT2.out.cell 1 _ rfl
   have t2:=HT2.out.cell 2 _ rfl
   have hz:R=.ok (z1,q1):=by rw [HR.out];unfold rtab;simp only [bd_ok,bd_err,HX0.out,HX1.out,if_true,Bool.false_eq_true,if_false]
   rw [hz]
   exact bodyPost_ret (v:=.agg #[.int .i64 z1.min,.int .i64 z1.max,.bool z1.has]) (by simp [results,Tryd.results29,go_sem,t0,t1,t2]) rfl ⟨⟨_,rfl,rfl,rfl⟩,HT2.out.rs,HT2.out.but⟩
end
end Go.Proofs.YtgbbmdknbflilaaDoor

