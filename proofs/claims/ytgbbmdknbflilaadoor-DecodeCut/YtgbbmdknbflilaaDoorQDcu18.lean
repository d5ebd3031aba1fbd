/- Texts that the claim needs. -/
import Derived.Test.YtgbbmdknbflilaaDoorQDcu17
namespace Go.Proofs.YtgbbmdknbflilaaDoor
open Go.RowKit Rep Dec
set_option linter.unusedVariables false
set_option linter.unusedSimpArgs false
namespace Dec
def rconst (d:Nat) (s:ByteArray) (en i:Nat):R (Ins (IL d)):=bd (nx s en i) fun op j=>if form op=10 then .error 51 else if op=65\/op=66\/op=35 then bd (rsim (none_ d) s en op j) fun x m=>bd (must s en 11 m) fun _ q=>.ok (x,q) else .error 50
end Dec
section
variable (w0:World) (p:Nat) (s:ByteArray) (c:Nat->Value) (en k i n:Nat) (w:World) (h:RS w0 p s c en k i n w) (d:Nat)
include h
set_option maxRecDepth 100000 in
set_option maxHeartbeats 4000000 in
theorem dConst:Calls Tryd.prog 49 #[.pointer (some ⟨p,0,none⟩)] w (Rds w0 p s c en k n (vIns w.heap.size d) w (rconst d s en i)):=by
 have HS:=hideR (LI.start h 75 #[.int .i64 0,.int .i64 0,.int .i64 0,.int .i64 0,.slice none 0 0,.slice none 0 0,.slice none 0 0])
 clear h
 obtain ⟨R,hR⟩:∃R,R=rconst d s en i:=⟨_,rfl⟩
 rw [<- hR]
 have HR:=hideR hR
 clear hR
 have HC:=hideR (dNext w0 p s c en k i n _ HS.out.rs)
 go_enter Tryd.func49,Tryd.ntmps49
 go_wp2_with fail
 refine HC.out.mono ?_
 intro e u0 hr
 cases hx0:nx s en i with
 | error z =>
  rw [hx0] at hr
  obtain ⟨rfl,hb⟩:=hr
  have hz:R=.error z:=by rw [HR.out];unfold rconst;simp only [bd_err,hx0]
  exact ⟨rfl,by rw [hz];exact ⟨rfl,hb⟩⟩
 | ok v =>
  obtain ⟨op,j⟩:=v
  rw [hx0] at hr
  obtain ⟨⟨v0,rfl,hv0⟩,h1,h2⟩:=hr
  have hv0:v0=.int .i64 op:=hv0
  subst hv0
  have HX0:=hideR hx0
  have HS0:=hideR (HS.out.call h1 h2)
  clear h1 h2 hx0 HC HS
  go_wp2_with fail
  refine (formT op _).mono ?_
  rintro e u1 ⟨rfl,hb⟩
  have HS1:=hideR (HS0.out.call (HS0.out.rs.on hb) (But.of p hb))
  clear hb HS0
  by_cases hf:form op=10
  ·have qf:(form op != 10)=false:=by simp [hf]
   have hz:R=.error 51:=by rw [HR.out];unfold rconst;simp only [bd_ok,HX0.out,if_pos hf]
   have HZ:=hideR (⟨hz,HS1.out.rs.below⟩:_/\_)
   clear hf hz HS1
   go_wp2_with fail
   refine (needN _ _).mono ?_
   rintro e uy ⟨rfl,rfl⟩
   exact ⟨rfl,by rw [HZ.out.1];exact ⟨rfl,HZ.out.2⟩⟩
  ·have qf:(form op != 10)=true:=by simp [hf]
   by_cases ho:op=65\/op=66\/op=35
   ·have hfo:(1<=form op/\form op<=9)/\form op≠2/\form op≠3:=by rcases ho with rfl|rfl|rfl<;>decide
    have HD:=hideR (dSim w0 p s c en k j n u1 HS1.out.rs d op hfo.1 hfo.2.1 hfo.2.2)
    have HXR:Hid (R=bd (rsim (none_ d) s en op j) fun x m=>bd (must s en 11 m) fun _ q=>.ok (x,q)):=hideR (by rw [HR.out];unfold rconst;simp only [bd_ok,HX0.out];rw [if_neg hf,if_pos ho])
    have qo:((op == 65)=true)\/((op == 65)=false/\(op == 66)=true)\/((op == 65)=false/\(op == 66)=false/\(op == 35)=true):=by rcases ho with rfl|rfl|rfl<;>decide
    clear hf ho hfo HR HX0
    go_wp2_with fail
    refine (needY _ _).mono ?_
    rintro e uy ⟨rfl,rfl⟩
    rcases qo with q1|⟨q1,q2⟩|⟨q1,q2,q3⟩
    all_goals
     go_wp2_with fail
     refine (needY _ _).mono ?_
     rintro e uz ⟨rfl,rfl⟩
     go_wp2_with fail
     refine HD.out.mono ?_
     intro e u2 hr
     cases hx1:rsim (none_ d) s en op j with
     | error z =>
      rw [hx1] at hr
      obtain ⟨rfl,hb⟩:=hr
      have hz:R=.error z:=by rw [HXR.out,hx1];rfl
      exact ⟨rfl,by rw [hz];exact ⟨rfl,hb⟩⟩
     | ok v =>
      obtain ⟨x,m⟩:=v
      rw [hx1] at hr
      obtain ⟨⟨v2,rfl,hv2⟩,h1,h2⟩:=hr
      obtain ⟨o4,n4,k4,o5,n5,k5,o6,n6,k6,rfl,hI4,hA5,hA6⟩:=hv2
      have HX1:=hideR hx1
      have HS2:=hideR (HS1.out.call h1 h2)
      have HL:=hideR (⟨hI4.keep (keep_in w u2 HS1.out.lt),AtS.keep (keep_in w u2 HS1.out.lt) _ _ _ hA5,AtS.keep (keep_in w u2 HS1.out.lt) _ _ _ hA6⟩:_/\_/\_)
      clear h1 h2 hI4 hA5 hA6 hx1 HD HS1
      have HA:Hid (LI w0 w p s c en k m n 75 #[.int .i64 0,.int .i64 0,.int .i64 0,.int .i64 0,.slice none 0 0,.slice none 0 0,.slice none 0 0] (u2.alloc (.cells #[.int .i64 x.op,.int .i64 x.a,.int .i64 x.b,.int .i64 x.n,.slice o4 n4 k4,.slice o5 n5 k5,.slice o6 n6 k6] 75))):=hideR (HS2.out.call (HS2.out.rs.on (new_on' u2 _)) (But.of p (new_on' u2 _)))
      have HB2:Hid ((u2.alloc (.cells #[.int .i64 x.op,.int .i64 x.a,.int .i64 x.b,.int .i64 x.n,.slice o4 n4 k4,.slice o5 n5 k5,.slice o6 n6 k6] 75)).heap[u2.heap.size]?=some (.cells #[.int .i64 x.op,.int .i64 x.a,.int .i64 x.b,.int .i64 x.n,.slice o4 n4 k4,.slice o5 n5 k5,.slice o6 n6 k6] 75 (0,0))):=hideR (heap_alloc_new' u2 _ rfl)
      have hlt:=HS2.out.lt
      have hpw:=HS2.out.pw
      have HLA:=hideR (⟨HL.out.1.keep (since_below (new_on' u2 (.cells #[.int .i64 x.op,.int .i64 x.a,.int .i64 x.b,.int .i64 x.n,.slice o4 n4 k4,.slice o5 n5 k5,.slice o6 n6 k6] 75))),AtS.keep (since_below (new_on' u2 (.cells #[.int .i64 x.op,.int .i64 x.a,.int .i64 x.b,.int .i64 x.n,.slice o4 n4 k4,.slice o5 n5 k5,.slice o6 n6 k6] 75))) _ _ _ HL.out.2.1,AtS.keep (since_below (new_on' u2 (.cells #[.int .i64 x.op,.int .i64 x.a,.int .i64 x.b,.int .i64 x.n,.slice o4 n4 k4,.slice o5 n5 k5,.slice o6 n6 k6] 75))) _ _ _ HL.out.2.2⟩:_/\_/\_)
      have HM:=hideR (dMust w0 p s c en k m n _ HA.out.rs 11)
      clear HS2 HL
      go_wp2_with fail
      refine HM.out.mono ?_
      intro e u3 hr
      cases hx2:must s en 11 m with
      | error z =>
       rw [hx2] at hr
       obtain ⟨rfl,hb⟩:=hr
       have hz:R=.error z:=by rw [HXR.out,HX1.out,bd_ok,hx2];rfl
       exact ⟨rfl,by rw [hz];exact ⟨rfl,hb⟩⟩
      | ok v =>
       obtain ⟨y,q⟩:=v
       rw [hx2] at hr
       obtain ⟨⟨v3,rfl,hv3⟩,h1,h2⟩:=hr
       have hv3:v3=.tuple #[]:=hv3
       subst hv3
       have hz:R=.ok (x,q):=by rw [HXR.out,HX1.out,bd_ok,hx2];rfl
       have HZ:=hideR hz
       have HS3:=hideR (HA.out.call h1 h2)
       have HB3:Hid (u3.heap[u2.heap.size]?=some (.cells #[.int .i64 x.op,.int .i64 x.a,.int .i64 x.b,.int .i64 x.n,.slice o4 n4 k4,.slice o5 n5 k5,.slice o6 n6 k6] 75 (0,0))):=hideR (by rw [h2.block _ (Array.getElem?_eq_some_iff.1 HB2.out).1 (fun e=>by injection e with e;omega)];exact HB2.out)
       have HL3:=hideR (⟨HLA.out.1.keep (HA.out.kept h2),AtS.keep (HA.out.kept h2) _ _ _ HLA.out.2.1,AtS.keep (HA.out.kept h2) _ _ _ HLA.out.2.2⟩:_/\_/\_)
       have hne:u2.heap.size≠w.heap.size:=by omega
       have hcell:∀j v,#[Value.int .i64 x.op,.int .i64 x.a,.int .i64 x.b,.int .i64 x.n,.slice o4 n4 k4,.slice o5 n5 k5,.slice o6 n6 k6][j]?=some v->u3.cell? ⟨u2.heap.size,j,none⟩=some v:=fun j v hv=>by unfold World.cell?;rw [HB3.out];exact hv
       have x0:=hcell 0 _ rfl
       have x1:=hcell 1 _ rfl
       have x2:=hcell 2 _ rfl
       have x3:=hcell 3 _ rfl
       have x4:=hcell 4 _ rfl
       have x5:=hcell 5 _ rfl
       have x6:=hcell 6 _ rfl
       have r0:=HS3.out.cell 0 _ rfl
       have g0:=HS3.out.frz 0
       have r1:=HS3.out.cell 1 _ rfl
       have g1:=HS3.out.frz 1
       have r2:=HS3.out.cell 2 _ rfl
       have g2:=HS3.out.frz 2
       have r3:=HS3.out.cell 3 _ rfl
       have g3:=HS3.out.frz 3
       have r4:=HS3.out.cell 4 _ rfl
       have g4:=HS3.out.frz 4
       have r5:=HS3.out.cell 5 _ rfl
       have g5:=HS3.out.frz 5
       have r6:=HS3.out.cell 6 _ rfl
       have g6:=HS3.out.frz 6
       clear h1 h2 hx2 hz HM HA HB2 HB3 HLA HXR HX1 hcell hlt hpw
       go_wp2
       have HT0:Hid (LI w0 w p s c en k q n 75 #[.int .i64 x.op,.int .i64 0,.int .i64 0,.int .i64 0,.slice none 0 0,.slice none 0 0,.slice none 0 0] (u3.setCell ⟨w.heap.size,0,none⟩ (.int .i64 x.op))):=hideR (HS3.out.set 0 _)
       have HK0:=hideR (⟨HL3.out.1.keep (keep_set w u3 0 (.int .i64 x.op)),AtS.keep (keep_set w u3 0 (.int .i64 x.op)) _ _ _ HL3.out.2.1,AtS.keep (keep_set w u3 0 (.int .i64 x.op)) _ _ _ HL3.out.2.2⟩:_/\_/\_)
       have HT1:Hid (LI w0 w p s c en k q n 75 #[.int .i64 x.op,.int .i64 x.a,.int .i64 0,.int .i64 0,.slice none 0 0,.slice none 0 0,.slice none 0 0] ((u3.setCell ⟨w.heap.size,0,none⟩ (.int .i64 x.op)).setCell ⟨w.heap.size,1,none⟩ (.int .i64 x.a))):=hideR (HT0.out.set 1 _)
       have HK1:=hideR (⟨HK0.out.1.keep (keep_set w (u3.setCell ⟨w.heap.size,0,none⟩ (.int .i64 x.op)) 1 (.int .i64 x.a)),AtS.keep (keep_set w (u3.setCell ⟨w.heap.size,0,none⟩ (.int .i64 x.op)) 1 (.int .i64 x.a)) _ _ _ HK0.out.2.1,AtS.keep (keep_set w (u3.setCell ⟨w.heap.size,0,none⟩ (.int .i64 x.op)) 1 (.int .i64 x.a)) _ _ _ HK0.out.2.2⟩:_/\_/\_)
       have HT2:Hid (LI w0 w p s c en k q n 75 #[.int .i64 x.op,.int .i64 x.a,.int .i64 x.b,.int .i64 0,.slice none 0 0,.slice none 0 0,.slice none 0 0] (((u3.setCell ⟨w.heap.size,0,none⟩ (.int .i64 x.op)).setCell ⟨w.heap.size,1,none⟩ (.int .i64 x.a)).setCell ⟨w.heap.size,2,none⟩ (.int .i64 x.b))):=hideR (HT1.out.set 2 _)
       have HK2:=hideR (⟨HK1.out.1.keep (keep_set w ((u3.setCell ⟨w.heap.size,0,none⟩ (.int .i64 x.op)).setCell ⟨w.heap.size,1,none⟩ (.int .i64 x.a)) 2 (.int .i64 x.b)),AtS.keep (keep_set w ((u3.setCell ⟨w.heap.size,0,none⟩ (.int .i64 x.op)).setCell ⟨w.heap.size,1,none⟩ (.int .i64 x.a)) 2 (.int .i64 x.b)) _ _ _ HK1.out.2.1,AtS.keep (keep_set w ((u3.setCell ⟨w.heap.size,0,none⟩ (.int .i64 x.op)).setCell ⟨w.heap.size,1,none⟩ (.int .i64 x.a)) 2 (.int .i64 x.b)) _ _ _ HK1.out.2.2⟩:_/\_/\_)
       have HT3:Hid (LI w0 w p s c en k q n 75 #[.int .i64 x.op,.int .i64 x.a,.int .i64 x.b,.int .i64 x.n,.slice none 0 0,.slice none 0 0,.slice none 0 0] ((((u3.setCell ⟨w.heap.size,0,none⟩ (.int .i64 x.op)).setCell ⟨w.heap.size,1,none⟩ (.int .i64 x.a)).setCell ⟨w.heap.size,2,none⟩ (.int .i64 x.b)).setCell ⟨w.heap.size,3,none⟩ (.int .i64 x.n))):=hideR (HT2.out.set 3 _)
       have HK3:=hideR (⟨HK2.out.1.keep (keep_set w (((u3.setCell ⟨w.heap.size,0,none⟩ (.int .i64 x.op)).setCell ⟨w.heap.size,1,none⟩ (.int .i64 x.a)).setCell ⟨w.heap.size,2,none⟩ (.int .i64 x.b)) 3 (.int .i64 x.n)),AtS.keep (keep_set w (((u3.setCell ⟨w.heap.size,0,none⟩ (.int .i64 x.op)).setCell ⟨w.heap.size,1,none⟩ (.int .i64 x.a)).setCell ⟨w.heap.size,2,none⟩ (.int .i64 x.b)) 3 (.int .i64 x.n)) _ _ _ HK2.out.2.1,AtS.keep (keep_set w (((u3.setCell ⟨w.heap.size,0,none⟩ (.int .i64 x.op)).setCell ⟨w.heap.size,1,none⟩ (.int .i64 x.a)).setCell ⟨w.heap.size,2,none⟩ (.int .i64 x.b)) 3 (.int .i64 x.n)) _ _ _ HK2.out.2.2⟩:_/\_/\_)
       have HT4:Hid (LI w0 w p s c en k q n 75 #[.int .i64 x.op,.int .i64 x.a,.int .i64 x.b,.int .i64 x.n,.slice o4 n4 k4,.slice none 0 0,.slice none 0 0] (((((u3.setCell ⟨w.heap.size,0,none⟩ (.int .i64 x.op)).setCell ⟨w.heap.size,1,none⟩ (.int .i64 x.a)).setCell ⟨w.heap.size,2,none⟩ (.int .i64 x.b)).setCell ⟨w.heap.size,3,none⟩ (.int .i64 x.n)).setCell ⟨w.heap.size,4,none⟩ (.slice o4 n4 k4))):=hideR (HT3.out.set 4 _)
       have HK4:=hideR (⟨HK3.out.1.keep (keep_set w ((((u3.setCell ⟨w.heap.size,0,none⟩ (.int .i64 x.op)).setCell ⟨w.heap.size,1,none⟩ (.int .i64 x.a)).setCell ⟨w.heap.size,2,none⟩ (.int .i64 x.b)).setCell ⟨w.heap.size,3,none⟩ (.int .i64 x.n)) 4 (.slice o4 n4 k4)),AtS.keep (keep_set w ((((u3.setCell ⟨w.heap.size,0,none⟩ (.int .i64 x.op)).setCell ⟨w.heap.size,1,none⟩ (.int .i64 x.a)).setCell ⟨w.heap.size,2,none⟩ (.int .i64 x.b)).setCell ⟨w.heap.size,3,none⟩ (.int .i64 x.n)) 4 (.slice o4 n4 k4)) _ _ _ HK3.out.2.1,AtS.keep (keep_set w ((((u3.setCell ⟨w.heap.size,0,none⟩ (.int .i64 x.op)).setCell ⟨w.heap.size,1,none⟩ (.int .i64 x.a)).setCell ⟨w.heap.size,2,none⟩ (.int .i64 x.b)).setCell ⟨w.heap.size,3,none⟩ (.int .i64 x.n)) 4 (.slice o4 n4 k4)) _ _ _ HK3.out.2.2⟩:_/\_/\_)
       have HT5:Hid (LI w0 w p s c en k q n 75 #[.int .i64 x.op,.int .i64 x.a,.int .i64 x.b,.int .i64 x.n,.slice o4 n4 k4,.slice o5 n5 k5,.slice none 0 0] ((((((u3.setCell ⟨w.heap.size,0,none⟩ (.int .i64 x.op)).setCell ⟨w.heap.size,1,none⟩ (.int .i64 x.a)).setCell ⟨w.heap.size,2,none⟩ (.int .i64 x.b)).setCell ⟨w.heap.size,3,none⟩ (.int .i64 x.n)).setCell ⟨w.heap.size,4,none⟩ (.slice o4 n4 k4)).setCell ⟨w.heap.size,5,none⟩ (.slice o5 n5 k5))):=hideR (HT4.out.set 5 _)
       have HK5:=hideR (⟨HK4.out.1.keep (keep_set w (((((u3.setCell ⟨w.heap.size,0,none⟩ (.int .i64 x.op)).setCell ⟨w.heap.size,1,none⟩ (.int .i64 x.a)).setCell ⟨w.heap.size,2,none⟩ (.int .i64 x.b)).setCell ⟨w.heap.size,3,none⟩ (.int .i64 x.n)).setCell ⟨w.heap.size,4,none⟩ (.slice o4 n4 k4)) 5 (.slice o5 n5 k5)),AtS.keep (keep_set w (((((u3.setCell ⟨w.heap.size,0,none⟩ (.int .i64 x.op)).setCell ⟨w.heap.size,1,none⟩ (.int .i64 x.a)).setCell ⟨w.heap.size,2,none⟩ (.int .i64 x.b)).setCell ⟨w.heap.size,3,none⟩ (.int .i64 x.n)).setCell ⟨w.heap.size,4,none⟩ (.slice o4 n4 k4)) 5 (.slice o5 n5 k5)) _ _ _ HK4.out.2.1,AtS.keep (keep_set w (((((u3.setCell ⟨w.heap.size,0,none⟩ (.int .i64 x.op)).setCell ⟨w.heap.size,1,none⟩ (.int .i64 x.a)).setCell ⟨w.heap.size,2,none⟩ (.int .i64 x.b)).setCell ⟨w.heap.size,3,none⟩ (.int .i64 x.n)).setCell ⟨w.heap.size,4,none⟩ (.slice o4 n4 k4)) 5 (.slice o5 n5 k5)) _ _ _ HK4.out.2.2⟩:_/\_/\_)
       have HT6:Hid (LI w0 w p s c en k q n 75 #[.int .i64 x.op,.int .i64 x.a,.int .i64 x.b,.int .i64 x.n,.slice o4 n4 k4,.slice o5 n5 k5,.slice o6 n6 k6] (((((((u3.setCell ⟨w.heap.size,0,none⟩ (.int .i64 x.op)).setCell ⟨w.heap.size,1,none⟩ (.int .i64 x.a)).setCell ⟨w.heap.size,2,none⟩ (.int .i64 x.b)).setCell ⟨w.heap.size,3,none⟩ (.int .i64 x.n)).setCell ⟨w.heap.size,4,none⟩ (.slice o4 n4 k4)).setCell ⟨w.heap.size,5,none⟩ (.slice o5 n5 k5)).setCell ⟨w.heap.size,6,none⟩ (.slice o6 n6 k6))):=hideR (HT5.out.set 6 _)
       have HK6:=hideR (⟨HK5.out.1.keep (keep_set w ((((((u3.setCell ⟨w.heap.size,0,none⟩ (.int .i64 x.op)).setCell ⟨w.heap.size,1,none⟩ (.int .i64 x.a)).setCell ⟨w.heap.size,2,none⟩ (.int .i64 x.b)).setCell ⟨w.heap.size,3,none⟩ (.int .i64 x.n)).setCell ⟨w.heap.size,4,none⟩ (.slice o4 n4 k4)).setCell ⟨w.heap.size,5,none⟩ (.slice o5 n5 k5)) 6 (.slice o6 n6 k6)),AtS.keep (keep_set w ((((((u3.setCell ⟨w.heap.size,0,none⟩ (.int .i64 x.op)).setCell ⟨w.heap.size,1,none⟩ (.int .i64 x.a)).setCell ⟨w.heap.size,2,none⟩ (.int .i64 x.b)).setCell ⟨w.heap.size,3,none⟩ (.int .i64 x.n)).setCell ⟨w.heap.size,4,none⟩ (.slice o4 n4 k4)).setCell ⟨w.heap.size,5,none⟩ (.slice o5 n5 k5)) 6 (.slice o6 n6 k6)) _ _ _ HK5.out.2.1,AtS.keep (keep_set w ((((((u3.setCell ⟨w.heap.size,0,none⟩ (.int .i64 x.op)).setCell ⟨w.heap.size,1,none⟩ (.int .i64 x.a)).setCell ⟨w.heap.size,2,none⟩ (.int .i64 x.b)).setCell ⟨w.heap.size,3,none⟩ (.int .i64 x.n)).setCell ⟨w.heap.size,4,none⟩ (.slice o4 n4 k4)).setCell ⟨w.heap.size,5,none⟩ (.slice o5 n5 k5)) 6 (.slice o6 n6 k6)) _ _ _ HK5.out.2.2⟩:_/\_/\_)
       have t0:=HT6.out.cell 0 _ rfl
       have t1:=HT6.out.cell 1 _ rfl
       have t2:=HT6.out.cell 2 _ rfl
       have t3:=HT6.out.cell 3 _ rfl
       have t4:=HT6.out.cell 4 _ rfl
       have t5:=HT6.out.cell 5 _ rfl
       have t6:=HT6.out.cell 6 _ rfl
       rw [HZ.out]
       exact bodyPost_ret (v:=.agg #[.int .i64 x.op,.int .i64 x.a,.int .i64 x.b,.int .i64 x.n,.slice o4 n4 k4,.slice o5 n5 k5,.slice o6 n6 k6]) (by simp [results,Tryd.results49,go_sem,t0,t1,t2,t3,t4,t5,t6]) rfl ⟨⟨_,rfl,_,_,_,_,_,_,_,_,_,rfl,HK6.out.1.keep (keep_out w _),AtS.keep (keep_out w _) _ _ _ HK6.out.2.1,AtS.keep (keep_out w _) _ _ _ HK6.out.2.2⟩,HT6.out.rs,HT6.out.but⟩
   ·have q1:(op == 65)=false:=by rw [beq_eq_false_iff_ne];omega
    have q2:(op == 66)=false:=by rw [beq_eq_false_iff_ne];omega
    have q3:(op == 35)=false:=by rw [beq_eq_false_iff_ne];omega
    have hz:R=.error 50:=by rw [HR.out];unfold rconst;simp only [bd_ok,HX0.out];rw [if_neg hf,if_neg ho]
    have HZ:=hideR (⟨hz,HS1.out.rs.below⟩:_/\_)
    clear hf hz ho HS1
    go_wp2_with fail
    refine (needY _ _).mono ?_
    rintro e uy ⟨rfl,rfl⟩
    go_wp2_with fail
    refine (needN _ _).mono ?_
    rintro e uz ⟨rfl,rfl⟩
    exact ⟨rfl,by rw [HZ.out.1];exact ⟨rfl,HZ.out.2⟩⟩
end
end Go.Proofs.YtgbbmdknbflilaaDoor

