/- Texts that the claim needs. -/
import Derived.Test.YtiailkiepndliaaGreatDoorQDWi13
namespace Go.Proofs.YtiailkiepndliaaGreatDoor
open Go.RowKit Rep Dec
set_option linter.unusedVariables false
set_option linter.unusedSimpArgs false
namespace Dec
structure LI (w0 w:World) (p:Nat) (s:ByteArray) (c:Nat->Value) (en k i n T:Nat) (cs:Array Value) (u:World):Prop where
 rs:RS w0 p s c en k i n u
 but:But p w u
 res:u.heap[w.heap.size]?=some (.cells cs T (0,0))
 pw:p<w.heap.size
section
variable {w0 w u:World} {p:Nat} {s:ByteArray} {c:Nat->Value} {en k i n T:Nat} {cs:Array Value}
theorem LI.start (h:RS w0 p s c en k i n w) (T:Nat) (cs:Array Value):LI w0 w p s c en k i n T cs (w.alloc (.cells cs T)) :=
 ⟨h.on (new_on' w _),But.of p (new_on' w _),heap_alloc_new' w _ rfl,h.lt⟩
theorem LI.call {i2 n2:Nat} {u2:World} (h:LI w0 w p s c en k i n T cs u) (h1:RS w0 p s c en k i2 n2 u2) (h2:But p u u2):LI w0 w p s c en k i2 n2 T cs u2 :=
 ⟨h1,h.but.trans h2,by rw [h2.block _ (Array.getElem?_eq_some_iff.1 h.res).1 (fun e=>by injection e with e;have:=h.pw;omega)];exact h.res,h.pw⟩
theorem LI.set (h:LI w0 w p s c en k i n T cs u) (j:Nat) (v:Value):LI w0 w p s c en k i n T (cs.setIfInBounds j v) (u.setCell ⟨w.heap.size,j,none⟩ v) :=
 ⟨h.rs.set (by have:=h.pw;omega) (by have:=h.rs.base;have:=h.pw;omega) _ _,but_set h.but (Nat.le_refl _) _ _,heap_setCell_same u _ j _ _ v h.res,h.pw⟩
theorem LI.cell (h:LI w0 w p s c en k i n T cs u) (j:Nat) (v:Value) (hv:cs[j]?=some v):u.cell? ⟨w.heap.size,j,none⟩=some v:=by
 unfold World.cell?;rw [h.res];exact hv
theorem LI.frz (h:LI w0 w p s c en k i n T cs u) (j:Nat):u.frozen? ⟨w.heap.size,j,none⟩=false:=by unfold World.frozen?;rw [h.res];simp
theorem RS.pos (h:RS w0 p s c en k i n w):w0.heap.size<=w.heap.size:=h.below.size
theorem LI.lt (h:LI w0 w p s c en k i n T cs u):w.heap.size+1<=u.heap.size:=(Array.getElem?_eq_some_iff.1 h.res).1
theorem LI.kept {u2:World} (h:LI w0 w p s c en k i n T cs u) (h2:But p u u2):∀k,Since (w.heap.size+1) u none k->Since (w.heap.size+1) u2 none k/\u2.heap[k]?=u.heap[k]?:=since_but (by have:=h.pw;omega) h2
theorem keep_set (w u:World) (j:Nat) (v:Value):∀k,Since (w.heap.size+1) u none k->Since (w.heap.size+1) (u.setCell ⟨w.heap.size,j,none⟩ v) none k/\(u.setCell ⟨w.heap.size,j,none⟩ v).heap[k]?=u.heap[k]?:=fun k hk =>
 ⟨⟨hk.1,by simpa using hk.2.1,by simp⟩,Below.heap_setCell _ _ _ _ (by have:=hk.1;show k≠w.heap.size;omega)⟩
theorem keep_in {B:Nat} (w u:World) (hB:w.heap.size+1<=B):∀k,Since B u none k->Since (w.heap.size+1) u none k/\u.heap[k]?=u.heap[k]?:=fun k hk=>⟨⟨Nat.le_trans hB hk.1,hk.2.1,hk.2.2⟩,rfl⟩
theorem keep_out (w u:World):∀k,Since (w.heap.size+1) u none k->Since w.heap.size u none k/\u.heap[k]?=u.heap[k]?:=fun k hk=>⟨⟨by have:=hk.1;omega,hk.2.1,hk.2.2⟩,rfl⟩
end
def rlim (s:ByteArray) (en i:Nat):R Lim:=bd (rflag s en i) fun f j=>bd (ru s en j) fun a m=>if f=true then bd (ru s en m) fun b q=>.ok (⟨a,b,true⟩,q) else .ok (⟨a,0,false⟩,m)
def kPlain {α:Type} (C:α->List Value):EK α:=fun _ _ x vs=>vs=C x
def kLim:EK Lim:=kPlain fun x=>[.int .i64 x.min,.int .i64 x.max,.bool x.has]
def rft (s:ByteArray) (en i:Nat):R FT:=bd (must s en 96 i) fun _ j=>bd (rlt s en j) fun a m=>bd (rlt s en m) fun b q=>.ok (⟨a,b⟩,q)
def kFT:EK FT:=fun w S x vs=>∃a b,vs = [a,b]/\IntsS w S a x.params/\IntsS w S b x.results
end Dec
section
variable (w0:World) (p:Nat) (s:ByteArray) (c:Nat->Value) (en k i n:Nat) (w:World) (h:RS w0 p s c en k i n w)
include h
set_option maxRecDepth 100000 in
set_option maxHeartbeats 4000000 in
theorem dLim:Calls Tryz.prog 65 #[.pointer (some ⟨p,0,none⟩)] w (Rds w0 p s c en k n (vLim kLim w.heap.size) w (rlim s en i)):=by
 have HS:=hideR (LI.start h 92 #[.int .i64 0,.int .i64 0,.bool false])
 clear h
 obtain ⟨R,hR⟩:∃R,R=rlim s en i:=⟨_,rfl⟩
 rw [<- hR]
 have HR:=hideR hR
 clear hR
 go_enter Tryz.func65,Tryz.ntmps65
 have hc0:=dFlag w0 p s c en k i n (w.alloc (.cells #[.int .i64 0,.int .i64 0,.bool false] 92)) HS.out.rs
 have HC0:=hideR hc0
 clear hc0
 go_wp2_with fail
 refine HC0.out.mono ?_
 intro e u0 hr
 cases hx0:rflag s en i with
 | error z =>
  rw [hx0] at hr
  obtain ⟨rfl,hb⟩:=hr
  have HX0:=hideR hx0
  have hz:R=.error z:=by rw [HR.out];unfold rlim;simp only [bd_ok,bd_err,HX0.out,if_true,Bool.false_eq_true,if_false]
  exact ⟨rfl,by rw [hz];exact ⟨rfl,hb⟩⟩
 | ok v =>
  obtain ⟨z0,q0⟩:=v
  rw [hx0] at hr
  obtain ⟨⟨v0,rfl,hv0⟩,h1,h2⟩:=hr
  have hv0:v0=.bool z0:=hv0
  subst hv0
  have HX0:=hideR hx0
  have HS0:=hideR (HS.out.call h1 h2)
  clear h1 h2 hx0 HC0 HS
  have x2:=HS0.out.cell 2 _ rfl
  have y2:=HS0.out.frz 2
  have HS02:Hid (LI w0 w p s c en k q0 n 92 #[.int .i64 0,.int .i64 0,.bool z0] (u0.setCell ⟨w.heap.size,2,none⟩ (.bool z0))):=hideR (HS0.out.set 2 _)
  have hc1:=dUns w0 p s c en k q0 n (u0.setCell ⟨w.heap.size,2,none⟩ (.bool z0)) HS02.out.rs
  have HC1:=hideR hc1
  clear hc1
  go_wp2_with fail
  refine HC1.out.mono ?_
  intro e u1 hr
  cases hx1:ru s en q0 with
  | error z =>
   rw [hx1] at hr
   obtain ⟨rfl,hb⟩:=hr
   have HX1:=hideR hx1
   have hz:R=.error z:=by rw [HR.out];unfold rlim;simp only [bd_ok,bd_err,HX0.out,HX1.out,if_true,Bool.false_eq_true,if_false]
   exact ⟨rfl,by rw [hz];exact ⟨rfl,hb⟩⟩
  | ok v =>
   obtain ⟨z1,q1⟩:=v
   rw [hx1] at hr
   obtain ⟨⟨v1,rfl,hv1⟩,h1,h2⟩:=hr
   have hv1:v1=.int .i64 z1:=hv1
   subst hv1
   have HX1:=hideR hx1
   have HS1:=hideR (HS02.out.call h1 h2)
   clear h1 h2 hx1 HC1 HS02
   have x0:=HS1.out.cell 0 _ rfl
   have y0:=HS1.out.frz 0
   have HS10:Hid (LI w0 w p s c en k q1 n 92 #[.int .i64 z1,.int .i64 0,.bool z0] (u1.setCell ⟨w.heap.size,0,none⟩ (.int .i64 z1))):=hideR (HS1.out.set 0 _)
   have x2:=HS10.out.cell 2 _ rfl
   have y2:=HS10.out.frz 2
   cases z0 with
   | true =>
    have hc2:=dUns w0 p s c en k q1 n (u1.setCell ⟨w.heap.size,0,none⟩ (.int .i64 z1)) HS10.out.rs
    have HC2:=hideR hc2
    clear hc2
    go_wp2_with fail
    refine HC2.out.mono ?_
    intro e u2 hr
    cases hx2:ru s en q1 with
    | error z =>
     rw [hx2] at hr
     obtain ⟨rfl,hb⟩:=hr
     have HX2:=hideR hx2
     have hz:R=.error z:=by rw [HR.out];unfold rlim;simp only [bd_ok,bd_err,HX0.out,HX1.out,HX2.out,if_true,Bool.false_eq_true,if_false]
     exact ⟨rfl,by rw [hz];exact ⟨rfl,hb⟩⟩
    | ok v =>
     obtain ⟨z2,q2⟩:=v
     rw [hx2] at hr
     obtain ⟨⟨v2,rfl,hv2⟩,h1,h2⟩:=hr
     have hv2:v2=.int .i64 z2:=hv2
     subst hv2
     have HX2:=hideR hx2
     have HS2:=hideR (HS10.out.call h1 h2)
     clear h1 h2 hx2 HC2 HS10
     have x1:=HS2.out.cell 1 _ rfl
     have y1:=HS2.out.frz 1
     have HS21:Hid (LI w0 w p s c en k q2 n 92 #[.int .i64 z1,.int .i64 z2,.bool true] (u2.setCell ⟨w.heap.size,1,none⟩ (.int .i64 z2))):=hideR (HS2.out.set 1 _)
     have x0:=HS21.out.cell 0 _ rfl
     have y0:=HS21.out.frz 0
     have x1:=HS21.out.cell 1 _ rfl
     have y1:=HS21.out.frz 1
     have x2:=HS21.out.cell 2 _ rfl
     have y2:=HS21.out.frz 2
     go_wp2
     have HT0:Hid (LI w0 w p s c en k q2 n 92 #[.int .i64 z1,.int .i64 z2,.bool true] ((u2.setCell ⟨w.heap.size,1,none⟩ (.int .i64 z2)).setCell ⟨w.heap.size,0,none⟩ (.int .i64 z1))):=hideR (HS21.out.set 0 _)
     have HT1:Hid (LI w0 w p s c en k q2 n 92 #[.int .i64 z1,.int .i64 z2,.bool true] (((u2.setCell ⟨w.heap.size,1,none⟩ (.int .i64 z2)).setCell ⟨w.heap.size,0,none⟩ (.int .i64 z1)).setCell ⟨w.heap.size,1,none⟩ (.int .i64 z2))):=hideR (HT0.out.set 1 _)
     have HT2:Hid (LI w0 w p s c en k q2 n 92 #[.int .i64 z1,.int .i64 z2,.bool true] ((((u2.setCell ⟨w.heap.size,1,none⟩ (.int .i64 z2)).setCell ⟨w.heap.size,0,none⟩ (.int .i64 z1)).setCell ⟨w.heap.size,1,none⟩ (.int .i64 z2)).setCell ⟨w.heap.size,2,none⟩ (.bool true))):=hideR (HT1.out.set 2 _)
     have t0:=HT2.out.cell 0 _ rfl
     have t1:=HT2.out.cell 1 _ rfl
     have t2:=HT2.out.cell 2 _ rfl
     have hz:R=.ok (⟨z1,z2,true⟩,q2):=by rw [HR.out];unfold rlim;simp only [bd_ok,bd_err,HX0.out,HX1.out,HX2.out,if_true,Bool.false_eq_true,if_false]
     rw [hz]
     exact bodyPost_ret (v:=.agg #[.int .i64 z1,.int .i64 z2,.bool true]) (by simp [results,Tryz.results65,go_sem,t0,t1,t2]) rfl ⟨⟨_,rfl,rfl,rfl⟩,HT2.out.rs,HT2.out.but⟩
   | false =>
    have x0:=HS10.out.cell 0 _ rfl
    have y0:=HS10.out.frz 0
    have x1:=HS10.out.cell 1 _ rfl
    have y1:=HS10.out.frz 1
    have x2:=HS10.out.cell 2 _ rfl
    have y2:=HS10.out.frz 2
    go_wp2
    have HT0:Hid (LI w0 w p s c en k q1 n 92 #[.int .i64 z1,.int .i64 0,.bool false] ((u1.setCell ⟨w.heap.size,0,none⟩ (.int .i64 z1)).setCell ⟨w.heap.size,0,none⟩ (.int .i64 z1))):=hideR (HS10.out.set 0 _)
    have HT1:Hid (LI w0 w p s c en k q1 n 92 #[.int .i64 z1,.int .i64 0,.bool false] (((u1.setCell ⟨w.heap.size,0,none⟩ (.int .i64 z1)).setCell ⟨w.heap.size,0,none⟩ (.int .i64 z1)).setCell ⟨w.heap.size,1,none⟩ (.int .i64 0))):=hideR (HT0.out.set 1 _)
    have HT2:Hid (LI w0 w p s c en k q1 n 92 #[.int .i64 z1,.int .i64 0,.bool false] ((((u1.setCell ⟨w.heap.size,0,none⟩ (.int .i64 z1)).setCell ⟨w.heap.size,0,none⟩ (.int .i64 z1)).setCell ⟨w.heap.size,1,none⟩ (.int .i64 0)).setCell ⟨w.heap.size,2,none⟩ (.bool false))):=hideR (HT1.out.set 2 _)
    have t0:=HT2.out.cell 0 _ rfl
    have t1:=HT2.out.cell 1 _ rfl
    have t2:=HT2.out.cell 2 _ rfl
    have hz:R=.ok (⟨z1,0,false⟩,q1):=by rw [HR.out];unfold rlim;simp only [bd_ok,bd_err,HX0.out,HX1.out,if_true,Bool.false_eq_true,if_false]
    rw [hz]
    exact bodyPost_ret (v:=.agg #[.int .i64 z1,.int .i64 0,.bool false]) (by simp [results,Tryz.results65,go_sem,t0,t1,t2]) rfl ⟨⟨_,rfl,rfl,rfl⟩,HT2.out.rs,HT2.out.but⟩
set_option maxRecDepth 100000 in
set_option maxHeartbeats 4000000 in
theorem dFT:Calls Tryz.prog 58 #[.pointer (some ⟨p,0,none⟩)] w (Rds w0 p s c en k n (vFT kFT w.heap.size) w (rft s en i)):=by
 have HS:=hideR (LI.start h 48 #[.slice none 0 0,.slice none 0 0])
 clear h
 obtain ⟨R,hR⟩:∃R,R=rft s en i:=⟨_,rfl⟩
 rw [<- hR]
 have HR:=hideR hR
 clear hR
 go_enter Tryz.func58,Tryz.ntmps58
 have hc0:=dMust w0 p s c en k i n (w.alloc (.cells #[.slice none 0 0,.slice none 0 0] 48)) HS.out.rs 96
 have HC0:=hideR hc0
 clear hc0
 go_wp2_with fail
 refine HC0.out.mono ?_
 intro e u0 hr
 cases hx0:must s en 96 i with
 | error z =>
  rw [hx0] at hr
  obtain ⟨rfl,hb⟩:=hr
  have HX0:=hideR hx0
  have hz:R=.error z:=by rw [HR.out];unfold rft;simp only [bd_ok,bd_err,HX0.out,if_true,Bool.false_eq_true,if_false]
  exact ⟨rfl,by rw [hz];exact ⟨rfl,hb⟩⟩
 | ok v =>
  obtain ⟨z0,q0⟩:=v
  rw [hx0] at hr
  obtain ⟨⟨v0,rfl,hv0⟩,h1,h2⟩:=hr
  have hv0:v0=.tuple #[]:=hv0
  subst hv0
  have HX0:=hideR hx0
  have HS0:=hideR (HS.out.call h1 h2)
  clear h1 h2 hx0 HC0 HS
  have hc1:=dTys w0 p s c en k q0 n u0 HS0.out.rs
  have HC1:=hideR hc1
  clear hc1
  go_wp2_with fail
  refine HC1.out.mono ?_
  intro e u1 hr
  cases hx1:rlt s en q0 with
  | error z =>
   rw [hx1] at hr
   obtain ⟨rfl,hb⟩:=hr
   have HX1:=hideR hx1
   have hz:R=.error z:=by rw [HR.out];unfold rft;simp only [bd_ok,bd_err,HX0.out,HX1.out,if_true,Bool.false_eq_true,if_false]
   exact ⟨rfl,by rw [hz];exact ⟨rfl,hb⟩⟩
  | ok v =>
   obtain ⟨z1,q1⟩:=v
   rw [hx1] at hr
   obtain ⟨⟨v1,rfl,hv1⟩,h1,h2⟩:=hr
   have hv1:IntsS u1 (Since u0.heap.size u1 none) v1 z1:=hv1
   have HL1:=hideR (hv1.keep (keep_in w u1 (by simpa using HS0.out.lt)))
   obtain ⟨o1,k1,rfl⟩:=Row.len hv1
   clear hv1
   have HX1:=hideR hx1
   have HS1:=hideR (HS0.out.call h1 h2)
   clear h1 h2 hx1 HC1 HS0
   have x0:=HS1.out.cell 0 _ rfl
   have y0:=HS1.out.frz 0
   have HS10:Hid (LI w0 w p s c en k q1 n 48 #[.slice o1 z1.length k1,.slice none 0 0] (u1.setCell ⟨w.heap.size,0,none⟩ (.slice o1 z1.length k1))):=hideR (HS1.out.set 0 _)
   have HL1s0:=hideR (IntsS.keep (keep_set w u1 0 (.slice o1 z1.length k1)) HL1.out)
   clear HL1
   have hc2:=dTys w0 p s c en k q1 n (u1.setCell ⟨w.heap.size,0,none⟩ (.slice o1 z1.length k1)) HS10.out.rs
   have HC2:=hideR hc2
   clear hc2
   go_wp2_with fail
   refine HC2.out.mono ?_
   intro e u2 hr
   cases hx2:rlt s en q1 with
   | error z =>
    rw [hx2] at hr
    obtain ⟨rfl,hb⟩:=hr
    have HX2:=hideR hx2
    have hz:R=.error z:=by rw [HR.out];unfold rft;simp only [bd_ok,bd_err,HX0.out,HX1.out,HX2.out,if_true,Bool.false_eq_true,if_false]
    exact ⟨rfl,by rw [hz];exact ⟨rfl,hb⟩⟩
   | ok v =>
    obtain ⟨z2,q2⟩:=v
    rw [hx2] at hr
    obtain ⟨⟨v2,rfl,hv2⟩,h1,h2⟩:=hr
    have HL1s0k2:=hideR (IntsS.keep (HS10.out.kept h2) HL1s0.out)
    clear HL1s0
    have hv2:IntsS u2 (Since (u1.setCell ⟨w.heap.size,0,none⟩ (.slice o1 z1.length k1)).heap.size u2 none) v2 z2:=hv2
    have HL2:=hideR (hv2.keep (keep_in w u2 (by simpa using HS10.out.lt)))
    obtain ⟨o2,k2,rfl⟩:=Row.len hv2
    clear hv2
    have HX2:=hideR hx2
    have HS2:=hideR (HS10.out.call h1 h2)
    clear h1 h2 hx2 HC2 HS10
    have x1:=HS2.out.cell 1 _ rfl
    have y1:=HS2.out.frz 1
    have HS21:Hid (LI w0 w p s c en k q2 n 48 #[.slice o1 z1.length k1,.slice o2 z2.length k2] (u2.setCell ⟨w.heap.size,1,none⟩ (.slice o2 z2.length k2))):=hideR (HS2.out.set 1 _)
    have HL1s0k2s1:=hideR (IntsS.keep (keep_set w u2 1 (.slice o2 z2.length k2)) HL1s0k2.out)
    clear HL1s0k2
    have HL2s1:=hideR (IntsS.keep (keep_set w u2 1 (.slice o2 z2.length k2)) HL2.out)
    clear HL2
    have x0:=HS21.out.cell 0 _ rfl
    have y0:=HS21.out.frz 0
    have x1:=HS21.out.cell 1 _ rfl
    have y1:=HS21.out.frz 1
    go_wp2
    have HT0:Hid (LI w0 w p s c en k q2 n 48 #[.slice o1 z1.length k1,.slice o2 z2.length k2] ((u2.setCell ⟨w.heap.size,1,none⟩ (.slice o2 z2.length k2)).setCell ⟨w.heap.size,0,none⟩ (.slice o1 z1.length k1))):=hideR (HS21.out.set 0 _)
    have HL1s0k2s1s0:=hideR (IntsS.keep (keep_set w (u2.setCell ⟨w.heap.size,1,none⟩ (.slice o2 z2.length k2)) 0 (.slice o1 z1.length k1)) HL1s0k2s1.out)
    clear HL1s0k2s1
    have HL2s1s0:=hideR (IntsS.keep (keep_set w (u2.setCell ⟨w.heap.size,1,none⟩ (.slice o2 z2.length k2)) 0 (.slice o1 z1.length k1)) HL2s1.out)
    clear HL2s1
    have HT1:Hid (LI w0 w p s c en k q2 n 48 #[.slice o1 z1.length k1,.slice o2 z2.length k2] (((u2.setCell ⟨w.heap.size,1,none⟩ (.slice o2 z2.length k2)).setCell ⟨w.heap.size,0,none⟩ (.slice o1 z1.length k1)).setCell ⟨w.heap.size,1,none⟩ (.slice o2 z2.length k2))):=hideR (HT0.out.set 1 _)
    have HL1s0k2s1s0s1:=hideR (IntsS.keep (keep_set w ((u2.setCell ⟨w.heap.size,1,none⟩ (.slice o2 z2.length k2)).setCell ⟨w.heap.size,0,none⟩ (.slice o1 z1.length k1)) 1 (.slice o2 z2.length k2)) HL1s0k2s1s0.out)
    clear HL1s0k2s1s0
    have HL2s1s0s1:=hideR (IntsS.keep (keep_set w ((u2.setCell ⟨w.heap.size,1,none⟩ (.slice o2 z2.length k2)).setCell ⟨w.heap.size,0,none⟩ (.slice o1 z1.length k1)) 1 (.slice o2 z2.length k2)) HL2s1s0.out)
    clear HL2s1s0
    have t0:=HT1.out.cell 0 _ rfl
    have t1:=HT1.out.cell 1 _ rfl
    have hz:R=.ok (⟨z1,z2⟩,q2):=by rw [HR.out];unfold rft;simp only [bd_ok,bd_err,HX0.out,HX1.out,HX2.out,if_true,Bool.false_eq_true,if_false]
    rw [hz]
    exact bodyPost_ret (v:=.agg #[.slice o1 z1.length k1,.slice o2 z2.length k2]) (by simp [results,Tryz.results58,go_sem,t0,t1]) rfl ⟨⟨_,rfl,_,_,_,_,_,_,rfl,_,_,rfl,(IntsS.keep (keep_out w _) HL1s0k2s1s0s1.out),(IntsS.keep (keep_out w _) HL2s1s0s1.out)⟩,HT1.out.rs,HT1.out.but⟩
end
end Go.Proofs.YtiailkiepndliaaGreatDoor

namespace Go.Proofs.YtiailkiepndliaaGreatDoor
open Go.RowKit Rep Dec
set_option linter.unusedVariables false
set_option linter.unusedSimpArgs false
namespace Dec
end Dec
section
variable (w0:World) (p:Nat) (s:ByteArray) (c:Nat->Value) (en k i n:Nat) (w:World) (h:RS w0 p s c en k i n w) (d:Nat)
include h
end
end Go.Proofs.YtiailkiepndliaaGreatDoor

namespace Go.Proofs.YtiailkiepndliaaGreatDoor
open Go.RowKit Rep Dec
set_option linter.unusedVariables false
set_option linter.unusedSimpArgs false
namespace Dec
end Dec
section
variable (w0:World) (p:Nat) (s:ByteArray) (c:Nat->Value) (en k i n:Nat) (w:World) (h:RS w0 p s c en k i n w)
include h
end
end Go.Proofs.YtiailkiepndliaaGreatDoor

namespace Go.Proofs.YtiailkiepndliaaGreatDoor
open Go.RowKit Rep Dec
set_option linter.unusedVariables false
namespace Dec
def aFT:EA FT:=fun w S g o x=>(∃v,w.cell? ⟨g,o,none⟩=some v/\IntsS w S v x.params)/\∃v,w.cell? ⟨g,o+1,none⟩=some v/\IntsS w S v x.results
theorem kFT_keep:Keeps kFT:=fun w w' S S' hk x vs ⟨a,b,h,h1,h2⟩=>⟨a,b,h,h1.keep hk,h2.keep hk⟩
theorem lFT:Lies kFT aFT:=fun w S g o x vs ⟨a,b,h,h1,h2⟩ hc=>by subst h;exact ⟨⟨_,hc 0 _ rfl,h1⟩,_,hc 1 _ rfl,h2⟩
end Dec
section
variable (w0:World) (p:Nat) (s:ByteArray) (c:Nat->Value) (en k i n:Nat) (w:World) (h:RS w0 p s c en k i n w)
include h
theorem sTypes:Calls Tryz.prog 57 #[.pointer (some ⟨p,0,none⟩),.func (.func 58) #[.pointer (some ⟨p,0,none⟩)] #[]] w (Rds w0 p s c en k n (fun l v u=>RowS 2 aFT u (Since w.heap.size u none) v l) w (rents (rft s en) s en i)) :=
 dFTs (rft s en) kFT aFT kFT_keep lFT w0 p s c en k i n w h fun j u hu=>dFT w0 p s c en k j n u hu
variable (hU:∀u,Below w0.heap.size w0 u->UtfI u)
include hU
end
end Go.Proofs.YtiailkiepndliaaGreatDoor

namespace Go.Proofs.YtiailkiepndliaaGreatDoor
open Go.RowKit Rep Dec
set_option linter.unusedVariables false
namespace Dec
def KeepF {α:Type} (F:EA α):Prop:=∀(w w':World) (S S':Nat->Prop),(∀k,S k->S' k/\w'.heap[k]?=w.heap[k]?)->∀g o x,S g->F w S g o x->F w' S' g o x
theorem RowS.keep {α:Type} {F:EA α} (hF:KeepF F) {n:Nat} {w w':World} {S S':Nat->Prop} (hk:∀k,S k->S' k/\w'.heap[k]?=w.heap[k]?) {v:Value} {l:List α} (h:RowS n F w S v l):RowS n F w' S' v l :=
 Row.imp h fun b _ _ _ h=>⟨(hk b h.1).1,hF _ _ _ _ hk _ _ _ h.1 h.2⟩
theorem aFT_keep:KeepF aFT:=fun w w' S S' hk g o x hb ⟨⟨v,a,b⟩,u,c,d⟩=>⟨⟨v,cell_keep hk hb a,b.keep hk⟩,u,cell_keep hk hb c,d.keep hk⟩
def upd (c:Nat->Value) (f:Nat) (v:Value):Nat->Value:=fun q=>if q=f then v else c q
def SRds {α:Type} (w0:World) (p:Nat) (s:ByteArray) (c:Nat->Value) (en k n f width:Nat) (F:EA α) (w:World) (x:R (List α)) (e:Ending) (w':World):Prop :=
 match x with
 | .ok (l,j)=>e=.returned (.tuple #[])/\(∃v,RowS width F w' (Since w.heap.size w' none) v l/\RS w0 p s (upd c f v) en k j n w')/\But p w w'
 | .error z=>e=.panicked (gave z)/\Below w0.heap.size w0 w'
theorem keep_p (w u:World) {p:Nat} (hp:p<w.heap.size) (j:Nat) (v:Value):∀k,Since w.heap.size u none k->Since w.heap.size (u.setCell ⟨p,j,none⟩ v) none k/\(u.setCell ⟨p,j,none⟩ v).heap[k]?=u.heap[k]?:=fun k hk =>
 ⟨⟨hk.1,by simpa using hk.2.1,by simp⟩,Below.heap_setCell _ _ _ _ (by have:=hk.1;show k≠p;omega)⟩
theorem RS.mod0 {w0 w:World} {p:Nat} {s:ByteArray} {c:Nat->Value} {en k i n:Nat} (h:RS w0 p s c en k i n w) (v:Value):RS w0 p s (upd c 0 v) en k i n (w.setCell ⟨p,3,none⟩ v) :=
 ⟨h.below.setCell h.base _,h.base,heap_setCell_same w p 3 _ _ _ h.blk,h.le,h.len,h.big⟩
end Dec
section
variable (w0:World) (p:Nat) (s:ByteArray) (c:Nat->Value) (en k i n:Nat) (w:World) (h:RS w0 p s c en k i n w)
include h
set_option maxRecDepth 100000 in
set_option maxHeartbeats 4000000 in
theorem sec1:Calls Tryz.prog 42 #[.pointer (some ⟨p,0,none⟩),.int .i64 1] w (SRds w0 p s c en k n 0 2 aFT w (rents (rft s en) s en i)):=by
 have HC:=hideR (sTypes w0 p s c en k i n w h)
 have hpw:=h.lt
 clear h
 generalize rents (rft s en) s en i=R at HC ⊢
 go_enter Tryz.func42,Tryz.ntmps42
 go_wp2_with fail
 refine HC.out.mono ?_
 intro e u hr
 cases R with
 | error z =>
  obtain ⟨rfl,hb⟩:=hr
  exact ⟨rfl,rfl,hb⟩
 | ok v =>
  obtain ⟨l,j⟩:=v
  obtain ⟨⟨v,rfl,hv⟩,h1,h2⟩:=hr
  obtain ⟨oV,kV,rfl⟩:=Row.len hv
  have HV:=hideR (RowS.keep (aFT_keep) (keep_p w u hpw 3 (.slice oV l.length kV)) hv)
  have HR:=hideR (h1.mod0 (.slice oV l.length kV))
  have HB:=hideR (h2.trans (But.set p 3 u (.slice oV l.length kV)))
  have c3:=h1.cell 3 _ rfl
  have f3:=h1.frz 3
  clear hv h1 h2 HC
  generalize l.length=nl at *
  go_wp2
  go_end0
  exact ⟨rfl,⟨_,HV.out,HR.out⟩,HB.out⟩
end
end Go.Proofs.YtiailkiepndliaaGreatDoor

namespace Go.Proofs.YtiailkiepndliaaGreatDoor
open Go.RowKit Rep Dec
set_option linter.unusedVariables false
namespace Dec
def aInt:EA Int:=fun w _ g o x=>w.cell? ⟨g,o,none⟩=some (.int .i64 x)
theorem one_new {w u:World} (hw:w.heap.size<=u.heap.size) (l:Int) (t:TypeId):RowS 1 aInt (u.alloc (.cells #[.int .i64 l] t)) (Since w.heap.size (u.alloc (.cells #[.int .i64 l] t)) none) (.slice (some ⟨u.heap.size,0,none⟩) 1 1) [l] :=
 ⟨by simp,.inr ⟨u.heap.size,0,1,rfl,fun i x hx=>by
  match i,hx with
  | 0,hx =>
   have:l=x:=by simpa using hx
   subst this
   exact ⟨⟨hw,by simp,by simp⟩,by have:=new_at u (.int .i64 l) t 0 _ rfl;rw [add_addr] at this;exact this⟩
  | i+1,hx=>simp at hx⟩⟩
end Dec
section
variable (w0:World) (p:Nat) (s:ByteArray) (c:Nat->Value) (en k i n:Nat) (w:World) (h:RS w0 p s c en k i n w)
include h
set_option maxRecDepth 100000 in
set_option maxHeartbeats 4000000 in
theorem sec0 (hU:∀u,Below w0.heap.size w0 u->UtfI u):Calls Tryz.prog 42 #[.pointer (some ⟨p,0,none⟩),.int .i64 0] w (Rds w0 p s c en k n vUnit w (rcustom s en i)):=by
 have HC:=hideR (dCustom w0 p s c en k i n w h hU)
 clear h hU
 generalize rcustom s en i=R at HC ⊢
 go_enter Tryz.func42,Tryz.ntmps42
 go_wp2_with fail
 refine HC.out.mono ?_
 intro e u hr
 cases R with
 | error z =>
  obtain ⟨rfl,hb⟩:=hr
  exact ⟨rfl,rfl,hb⟩
 | ok v =>
  obtain ⟨l,j⟩:=v
  obtain ⟨⟨v,rfl,hv⟩,h1,h2⟩:=hr
  have hv:v=.tuple #[]:=hv
  subst hv
  have HR:=hideR (⟨h1,h2⟩:_/\_)
  clear h1 h2 HC
  go_wp2
  go_end0
  exact ⟨⟨_,rfl,rfl⟩,HR.out.1,HR.out.2⟩
end
end Go.Proofs.YtiailkiepndliaaGreatDoor

namespace Go.Proofs.YtiailkiepndliaaGreatDoor
open Go.RowKit Rep Dec
set_option linter.unusedVariables false
namespace Dec
theorem RS.end_ {w0 w:World} {p:Nat} {s:ByteArray} {c:Nat->Value} {en k i n:Nat} (h:RS w0 p s c en k i n w) {m:Nat} (h1:i<=m) (h2:m<=s.size):RS w0 p s c m k i n (w.setCell ⟨p,2,none⟩ (.int .i64 m)) :=
 ⟨h.below.setCell h.base _,h.base,heap_setCell_same w p 2 _ _ _ h.blk,h1,h2,h.big⟩
def Sec (σ:Type):=σ->Nat->Nat->R σ
def Keeps5 {σ:Type} (p:Nat) (M:σ->(Nat->Value)->Nat->Nat->World->Prop):Prop:=∀st c k n w w',M st c k n w->But p w w'->M st c k n w'
def SecR {σ:Type} (w0:World) (p:Nat) (s:ByteArray) (M:σ->(Nat->Value)->Nat->Nat->World->Prop) (en:Nat) (w:World) (x:R σ) (e:Ending) (w':World):Prop :=
 match x with
 | .ok (st,j)=>e=.returned (.tuple #[])/\(∃c k n,RS w0 p s c en k j n w'/\M st c k n w')/\But p w w'
 | .error z=>e=.panicked (gave z)/\Below w0.heap.size w0 w'
def SecSays {σ:Type} (w0:World) (p:Nat) (s:ByteArray) (M:σ->(Nat->Value)->Nat->Nat->World->Prop) (sec:Sec σ) (id:Int):Prop :=
 ∀st c en k i n w,RS w0 p s c en k i n w->M st c k n w->Calls Tryz.prog 42 #[.pointer (some ⟨p,0,none⟩),.int .i64 id] w (SecR w0 p s M en w (sec st en i))
def rsized {σ:Type} (sec:Sec σ) (s:ByteArray) (st:σ) (en i:Nat):R σ :=
 bd (ru s en i) fun z j=>bd (sec st (min en (j+z.toNat)) j) fun st' m=>if m=j+z.toNat then .ok (st',m) else .error 50
theorem bel_unset {w0 w:World} {p o:Nat} {v:Value} (h:Below w0.heap.size w0 (w.setCell ⟨p,o,none⟩ v)) (hp:w0.heap.size<=p):Below w0.heap.size w0 w :=
 ⟨h.os,h.tape,h.output,by have:=h.size;simpa using this,fun k hk=>by rw [<- h.block k hk,Below.heap_setCell _ _ _ _ (by show k≠p;omega)]⟩
theorem but_cell {p:Nat} {w w':World} (h:But p w w') {b o:Nat} {v:Value} (hb:b≠p) (hc:w.cell? ⟨b,o,none⟩=some v):w'.cell? ⟨b,o,none⟩=some v :=
 World.grownBy.cell h hc (by simp [hb])
end Dec
set_option maxRecDepth 100000 in
set_option maxHeartbeats 4000000 in
theorem dInner {σ:Type} {w0:World} {p:Nat} {s:ByteArray} {M:σ->(Nat->Value)->Nat->Nat->World->Prop} {sec:Sec σ} {id:Int} (hS:SecSays w0 p s M sec id) (st:σ) (c:Nat->Value) (en k i n br bi:Nat) (w:World) (h:RS w0 p s c en k i n w) (hM:M st c k n w)
  (cr:w.cell? ⟨br,0,none⟩=some (.pointer (some ⟨p,0,none⟩))) (ci:w.cell? ⟨bi,0,none⟩=some (.int .i64 id)) :
  Calls Tryz.prog 41 #[.pointer (some ⟨br,0,none⟩),.pointer (some ⟨bi,0,none⟩)] w (SecR w0 p s M en w (sec st en i)):=by
 have HC:=hideR (hS st c en k i n w h hM)
 clear h hM hS
 generalize sec st en i=X at HC ⊢
 go_enter Tryz.func41,Tryz.ntmps41
 go_wp2_with fail
 refine HC.out.mono ?_
 intro e u hr
 cases X with
 | error z =>
  obtain ⟨rfl,hb⟩:=hr
  exact ⟨rfl,rfl,hb⟩
 | ok v =>
  obtain ⟨l,j⟩:=v
  obtain ⟨rfl,hr⟩:=hr
  have HR:=hideR hr
  clear hr HC
  go_wp2
  go_end0
  exact ⟨rfl,HR.out⟩
set_option maxRecDepth 100000 in
set_option maxHeartbeats 4000000 in
theorem dSized {σ:Type} {w0:World} {p:Nat} {s:ByteArray} {M:σ->(Nat->Value)->Nat->Nat->World->Prop} (hK:Keeps5 p M) {sec:Sec σ} {id:Int} (hS:SecSays w0 p s M sec id) (st:σ) (c:Nat->Value) (en k i n br bi:Nat) (w:World) (h:RS w0 p s c en k i n w) (hM:M st c k n w)
  (cr:w.cell? ⟨br,0,none⟩=some (.pointer (some ⟨p,0,none⟩))) (ci:w.cell? ⟨bi,0,none⟩=some (.int .i64 id)) (hbr:br≠p) (hbi:bi≠p) :
  Calls Tryz.prog 40 #[.pointer (some ⟨p,0,none⟩),.func (.func 41) #[] #[.pointer (some ⟨br,0,none⟩),.pointer (some ⟨bi,0,none⟩)]] w (SecR w0 p s M en w (rsized sec s st en i)):=by
 have HC:=hideR (dUns w0 p s c en k i n w h)
 have H:=hideR h
 have HM:=hideR hM
 unfold rsized
 cases hR:ru s en i with
 | error z =>
  rw [hR] at HC
  clear h hM
  go_enter Tryz.func40,Tryz.ntmps40
  go_wp2_with fail
  refine HC.out.mono ?_
  rintro e u ⟨rfl,hb⟩
  exact ⟨rfl,rfl,hb⟩
 | ok vv =>
  obtain ⟨zi,j⟩:=vv
  obtain ⟨hij,hjen,hz0,hz1⟩:=ru_ok h.len hR
  rw [hR] at HC
  obtain ⟨z,rfl⟩:=Int.eq_ofNat_of_zero_le hz0
  have hlen:=h.len
  have hbig:=h.big
  clear h hM hR
  rw [bd_ok,show Int.toNat (z:Int)=z from rfl]
  have HI:Hid (∀(u1:World) (E:Nat),RS w0 p s c en k j n u1->But p w u1->j<=E->E<=en->Calls Tryz.prog 41 #[.pointer (some ⟨br,0,none⟩),.pointer (some ⟨bi,0,none⟩)] (u1.setCell ⟨p,2,none⟩ (.int .i64 E)) (fun e w'=>SecR w0 p s M E (u1.setCell ⟨p,2,none⟩ (.int .i64 E)) (sec st E j) e w')):=hideR fun u1 E h1 hB hE1 hE2=>by
   have hbu:But p w (u1.setCell ⟨p,2,none⟩ (.int .i64 E)):=hB.trans (But.set p 2 u1 _)
   exact dInner hS st c E k j n br bi _ (h1.end_ hE1 (by omega)) (hK _ _ _ _ _ _ HM.out hbu) (but_cell hbu hbr cr) (but_cell hbu hbi ci)
  have HJ:Hid (∀(u1:World) (E:Nat) (w3:World) (st':σ) (m:Nat),But p w u1->But p (u1.setCell ⟨p,2,none⟩ (.int .i64 E)) w3->(∃c k n,RS w0 p s c E k m n w3/\M st' c k n w3)->E<=en ->
    ((∃c k n,RS w0 p s c en k m n (w3.setCell ⟨p,2,none⟩ (.int .i64 en))/\M st' c k n (w3.setCell ⟨p,2,none⟩ (.int .i64 en)))/\But p w (w3.setCell ⟨p,2,none⟩ (.int .i64 en)))/\w3.cell? ⟨p,1,none⟩=some (.int .i64 m)/\w3.cell? ⟨p,2,none⟩=some (.int .i64 E)/\w3.frozen? ⟨p,2,none⟩=false):=hideR fun u1 E w3 st' m hB hb3 ⟨c3,k3,n3,h3,hM3⟩ hE=>by
   have hbs:=But.set p 2 w3 (.int .i64 (en:Int))
   exact ⟨⟨⟨c3,k3,n3,h3.end_ (Nat.le_trans h3.le hE) hlen,hK _ _ _ _ _ _ hM3 hbs⟩,((hB.trans (But.set p 2 u1 _)).trans hb3).trans hbs⟩,h3.cell 1 _ rfl,h3.cell 2 _ rfl,h3.frz 2⟩
  clear cr ci hS hK H HM
  have HX:=hideR (fun u1 h1 hB=>HI.out u1 (min en (j+z)) h1 hB (by omega) (by omega))
  have HJJ:=hideR (fun u1 w3 st' m hB hb3 hx=>HJ.out u1 (min en (j+z)) w3 st' m hB hb3 hx (by omega))
  clear HI HJ
  rw [show ((min en (j+z):Nat):Int)=min (en:Int) ((j:Int)+(z:Int)) by omega] at HX HJJ
  generalize sec st (min en (j+z)) j=X at HX ⊢
  have fin:Hid (∀e w',SecR w0 p s M en w (bd X fun st' m=>if m=j+z then .ok (st',m) else .error 50) e w'->SecR w0 p s M en w (bd X fun st' m=>if m=j+z then .ok (st',m) else .error 50) e w'):=hideR fun _ _ h=>h
  go_enter Tryz.func40,Tryz.ntmps40
  go_wp2_with fail
  refine HC.out.mono ?_
  rintro e u ⟨⟨v,rfl,hv⟩,h1,h2⟩
  have hv:v=.int .i64 z:=hv
  subst hv
  have d1:=h1.cell 1 _ rfl
  have d2:=h1.cell 2 _ rfl
  have H1:=hideR h1
  have H2:=hideR h2
  clear h1 h2 HC hv
  go_wp2_with fail
  go_quiet (fail)
  have h1':=H1.out.on (below_drewN' u nq)
  have hBu:But p w (u.drewN nq):=H2.out.trans (But.of p (below_drewN' u nq))
  generalize u.drewN nq=u1 at *
  clear d1 d2 H1 H2
  have e1:=h1'.cell 1 _ rfl
  have e2:=h1'.cell 2 _ rfl
  have f2:=h1'.frz 2
  have H1:=hideR h1'
  have HB:=hideR hBu
  clear h1' hBu
  go_wp2_with fail
  refine (HX.out u1 H1.out HB.out).mono ?_
  intro e w3 hr
  cases X with
  | error zz =>
   obtain ⟨rfl,hb⟩:=hr
   exact ⟨rfl,rfl,hb⟩
  | ok vv =>
   obtain ⟨st',m⟩:=vv
   obtain ⟨rfl,hx,hb3⟩:=hr
   obtain ⟨hr3,c1,c2,f3⟩:=HJJ.out u1 w3 st' m HB.out hb3 hx
   have HR3:=hideR hr3
   clear hr3 hx hb3 HX HJJ H1 HB e1 e2 f2
   by_cases hm:m=j+z
   ·have dm:((m:Int) == (j:Int)+(z:Int))=true:=by simp;omega
    go_wp2_with fail
    refine (needY _ _).mono ?_
    rintro e w' ⟨rfl,rfl⟩
    go_wp2
    go_end0
    refine fin.out _ _ ?_
    rw [bd_ok,if_pos hm]
    exact ⟨rfl,HR3.out.1,HR3.out.2⟩
   ·have dm:((m:Int) == (j:Int)+(z:Int))=false:=by simp;omega
    have HBel:=hideR HR3.out.1
    go_wp2_with fail
    refine (needN _ _).mono ?_
    rintro e w' ⟨rfl,rfl⟩
    obtain ⟨c',k',n',h',_⟩:=HBel.out
    refine ⟨rfl,fin.out _ _ ?_⟩
    rw [bd_ok,if_neg hm]
    exact ⟨rfl,bel_unset h'.below h'.base⟩
end Go.Proofs.YtiailkiepndliaaGreatDoor

