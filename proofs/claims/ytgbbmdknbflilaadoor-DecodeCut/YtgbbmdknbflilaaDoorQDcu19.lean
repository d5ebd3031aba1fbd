/- Texts that the claim needs. -/
import Derived.Test.YtgbbmdknbflilaaDoorQDcu18
namespace Go.Proofs.YtgbbmdknbflilaaDoor
open Go.RowKit Rep Dec
set_option linter.unusedVariables false
set_option linter.unusedSimpArgs false
namespace Dec
def rglo (d:Nat) (s:ByteArray) (en i:Nat):R (Glo d):=bd (rt s en i) fun t j=>bd (rflag s en j) fun f m=>bd (rconst d s en m) fun x q=>.ok (⟨t,f,x⟩,q)
def relm (d:Nat) (s:ByteArray) (en i:Nat):R (Elm d):=bd (must s en 0 i) fun _ j=>bd (rconst d s en j) fun x m=>bd (rl s en m) fun l q=>.ok (⟨x,l⟩,q)
def rdat (d:Nat) (s:ByteArray) (en i:Nat):R (Dat d):=bd (must s en 0 i) fun _ j=>bd (rconst d s en j) fun x m=>bd (rtext s en m) fun t q=>.ok (⟨x,t⟩,q)
def kIns (d:Nat):EK (Ins (IL d)):=fun w S x vs=>∃a b c,vs = [.int .i64 x.op,.int .i64 x.a,.int .i64 x.b,.int .i64 x.n,a,b,c]/\IntsS w S a x.labels/\AtS w S d b x.body/\AtS w S d c x.els
def kGlo (d:Nat):EK (Glo d):=fun w S x vs=>∃v7,vs = [.int .i64 x.type,.bool x.mtb]++v7/\kIns d w S x.init v7
def kElm (d:Nat):EK (Elm d):=fun w S x vs=>∃v7 l,vs=v7++[l]/\kIns d w S x.offset v7/\IntsS w S l x.funcs
def kDat (d:Nat):EK (Dat d):=fun w S x vs=>∃v7,vs=v7++[.string x.bytes]/\kIns d w S x.offset v7
theorem kIns_keep (d:Nat):Keeps (kIns d):=fun w w' S S' hk x vs ⟨a,b,c,h,h1,h2,h3⟩=>⟨a,b,c,h,h1.keep hk,AtS.keep hk _ _ _ h2,AtS.keep hk _ _ _ h3⟩
theorem kGlo_keep (d:Nat):Keeps (kGlo d):=fun w w' S S' hk x vs ⟨v7,h,h1⟩=>⟨v7,h,kIns_keep d _ _ _ _ hk _ _ h1⟩
theorem kElm_keep (d:Nat):Keeps (kElm d):=fun w w' S S' hk x vs ⟨v7,l,h,h1,h2⟩=>⟨v7,l,h,kIns_keep d _ _ _ _ hk _ _ h1,h2.keep hk⟩
theorem kDat_keep (d:Nat):Keeps (kDat d):=fun w w' S S' hk x vs ⟨v7,h,h1⟩=>⟨v7,h,kIns_keep d _ _ _ _ hk _ _ h1⟩
end Dec
section
variable (w0:World) (p:Nat) (s:ByteArray) (c:Nat->Value) (en k i n:Nat) (w:World) (h:RS w0 p s c en k i n w)
include h
set_option maxRecDepth 100000 in
set_option maxHeartbeats 4000000 in
theorem dGlo (d:Nat):Calls Tryd.prog 32 #[.pointer (some ⟨p,0,none⟩)] w (Rds w0 p s c en k n (vGlo (kGlo d) w.heap.size) w (rglo d s en i)):=by
 have HS:=hideR (LI.start h 77 #[.int .i64 0,.bool false,.int .i64 0,.int .i64 0,.int .i64 0,.int .i64 0,.slice none 0 0,.slice none 0 0,.slice none 0 0])
 clear h
 obtain ⟨R,hR⟩:∃R,R=rglo d s en i:=⟨_,rfl⟩
 rw [<- hR]
 have HR:=hideR hR
 clear hR
 go_enter Tryd.func32,Tryd.ntmps32
 have hc0:=dVt w0 p s c en k i n (w.alloc (.cells #[.int .i64 0,.bool false,.int .i64 0,.int .i64 0,.int .i64 0,.int .i64 0,.slice none 0 0,.slice none 0 0,.slice none 0 0] 77)) HS.out.rs
 have HC0:=hideR hc0
 clear hc0
 go_wp2_with fail
 refine HC0.out.mono ?_
 intro e u0 hr
 cases hx0:rt s en i with
 | error z =>
  rw [hx0] at hr
  obtain ⟨rfl,hb⟩:=hr
  have HX0:=hideR hx0
  have hz:R=.error z:=by rw [HR.out];unfold rglo;simp only [bd_ok,bd_err,HX0.out,if_true,Bool.false_eq_true,if_false]
  exact ⟨rfl,by rw [hz];exact ⟨rfl,hb⟩⟩
 | ok v =>
  obtain ⟨z0,q0⟩:=v
  rw [hx0] at hr
  obtain ⟨⟨v0,rfl,hv0⟩,h1,h2⟩:=hr
  have hv0:v0=.int .i64 z0:=hv0
  subst hv0
  have HX0:=hideR hx0
  have HS0:=hideR (HS.out.call h1 h2)
  clear h1 h2 hx0 HC0 HS
  have x0:=HS0.out.cell 0 _ rfl
  have y0:=HS0.out.frz 0
  have HS00:Hid (LI w0 w p s c en k q0 n 77 #[.int .i64 z0,.bool false,.int .i64 0,.int .i64 0,.int .i64 0,.int .i64 0,.slice none 0 0,.slice none 0 0,.slice none 0 0] (u0.setCell ⟨w.heap.size,0,none⟩ (.int .i64 z0))):=hideR (HS0.out.set 0 _)
  have hc1:=dFlag w0 p s c en k q0 n (u0.setCell ⟨w.heap.size,0,none⟩ (.int .i64 z0)) HS00.out.rs
  have HC1:=hideR hc1
  clear hc1
  go_wp2_with fail
  refine HC1.out.mono ?_
  intro e u1 hr
  cases hx1:rflag s en q0 with
  | error z =>
   rw [hx1] at hr
   obtain ⟨rfl,hb⟩:=hr
   have HX1:=hideR hx1
   have hz:R=.error z:=by rw [HR.out];unfold rglo;simp only [bd_ok,bd_err,HX0.out,HX1.out,if_true,Bool.false_eq_true,if_false]
   exact ⟨rfl,by rw [hz];exact ⟨rfl,hb⟩⟩
  | ok v =>
   obtain ⟨z1,q1⟩:=v
   rw [hx1] at hr
   obtain ⟨⟨v1,rfl,hv1⟩,h1,h2⟩:=hr
   have hv1:v1=.bool z1:=hv1
   subst hv1
   have HX1:=hideR hx1
   have HS1:=hideR (HS00.out.call h1 h2)
   clear h1 h2 hx1 HC1 HS00
   have x1:=HS1.out.cell 1 _ rfl
   have y1:=HS1.out.frz 1
   have HS11:Hid (LI w0 w p s c en k q1 n 77 #[.int .i64 z0,.bool z1,.int .i64 0,.int .i64 0,.int .i64 0,.int .i64 0,.slice none 0 0,.slice none 0 0,.slice none 0 0] (u1.setCell ⟨w.heap.size,1,none⟩ (.bool z1))):=hideR (HS1.out.set 1 _)
   have hc2:=dConst w0 p s c en k q1 n (u1.setCell ⟨w.heap.size,1,none⟩ (.bool z1)) HS11.out.rs d
   have HC2:=hideR hc2
   clear hc2
   go_wp2_with fail
   refine HC2.out.mono ?_
   intro e u2 hr
   cases hx2:rconst d s en q1 with
   | error z =>
    rw [hx2] at hr
    obtain ⟨rfl,hb⟩:=hr
    have HX2:=hideR hx2
    have hz:R=.error z:=by rw [HR.out];unfold rglo;simp only [bd_ok,bd_err,HX0.out,HX1.out,HX2.out,if_true,Bool.false_eq_true,if_false]
    exact ⟨rfl,by rw [hz];exact ⟨rfl,hb⟩⟩
   | ok v =>
    obtain ⟨z2,q2⟩:=v
    rw [hx2] at hr
    obtain ⟨⟨v2,rfl,hv2⟩,h1,h2⟩:=hr
    obtain ⟨o4,n4,k4,o5,n5,k5,o6,n6,k6,rfl,hI4,hA5,hA6⟩:=hv2
    have HL4:=hideR (hI4.keep (keep_in w u2 (by simpa using HS11.out.lt)))
    have HL5:=hideR (AtS.keep (keep_in w u2 (by simpa using HS11.out.lt)) _ _ _ hA5)
    have HL6:=hideR (AtS.keep (keep_in w u2 (by simpa using HS11.out.lt)) _ _ _ hA6)
    clear hI4 hA5 hA6
    have HX2:=hideR hx2
    have HS2:=hideR (HS11.out.call h1 h2)
    clear h1 h2 hx2 HC2 HS11
    have x2:=HS2.out.cell 2 _ rfl
    have y2:=HS2.out.frz 2
    have x3:=HS2.out.cell 3 _ rfl
    have y3:=HS2.out.frz 3
    have x4:=HS2.out.cell 4 _ rfl
    have y4:=HS2.out.frz 4
    have x5:=HS2.out.cell 5 _ rfl
    have y5:=HS2.out.frz 5
    have x6:=HS2.out.cell 6 _ rfl
    have y6:=HS2.out.frz 6
    have x7:=HS2.out.cell 7 _ rfl
    have y7:=HS2.out.frz 7
    have x8:=HS2.out.cell 8 _ rfl
    have y8:=HS2.out.frz 8
    have HS22:Hid (LI w0 w p s c en k q2 n 77 #[.int .i64 z0,.bool z1,.int .i64 z2.op,.int .i64 0,.int .i64 0,.int .i64 0,.slice none 0 0,.slice none 0 0,.slice none 0 0] (u2.setCell ⟨w.heap.size,2,none⟩ (.int .i64 z2.op))):=hideR (HS2.out.set 2 _)
    have HL4s2:=hideR (IntsS.keep (keep_set w u2 2 (.int .i64 z2.op)) HL4.out)
    clear HL4
    have HL5s2:=hideR (AtS.keep (keep_set w u2 2 (.int .i64 z2.op)) _ _ _ HL5.out)
    clear HL5
    have HL6s2:=hideR (AtS.keep (keep_set w u2 2 (.int .i64 z2.op)) _ _ _ HL6.out)
    clear HL6
    have HS223:Hid (LI w0 w p s c en k q2 n 77 #[.int .i64 z0,.bool z1,.int .i64 z2.op,.int .i64 z2.a,.int .i64 0,.int .i64 0,.slice none 0 0,.slice none 0 0,.slice none 0 0] ((u2.setCell ⟨w.heap.size,2,none⟩ (.int .i64 z2.op)).setCell ⟨w.heap.size,3,none⟩ (.int .i64 z2.a))):=hideR (HS22.out.set 3 _)
    have HL4s2s3:=hideR (IntsS.keep (keep_set w (u2.setCell ⟨w.heap.size,2,none⟩ (.int .i64 z2.op)) 3 (.int .i64 z2.a)) HL4s2.out)
    clear HL4s2
    have HL5s2s3:=hideR (AtS.keep (keep_set w (u2.setCell ⟨w.heap.size,2,none⟩ (.int .i64 z2.op)) 3 (.int .i64 z2.a)) _ _ _ HL5s2.out)
    clear HL5s2
    have HL6s2s3:=hideR (AtS.keep (keep_set w (u2.setCell ⟨w.heap.size,2,none⟩ (.int .i64 z2.op)) 3 (.int .i64 z2.a)) _ _ _ HL6s2.out)
    clear HL6s2
    have HS2234:Hid (LI w0 w p s c en k q2 n 77 #[.int .i64 z0,.bool z1,.int .i64 z2.op,.int .i64 z2.a,.int .i64 z2.b,.int .i64 0,.slice none 0 0,.slice none 0 0,.slice none 0 0] (((u2.setCell ⟨w.heap.size,2,none⟩ (.int .i64 z2.op)).setCell ⟨w.heap.size,3,none⟩ (.int .i64 z2.a)).setCell ⟨w.heap.size,4,none⟩ (.int .i64 z2.b))):=hideR (HS223.out.set 4 _)
    have HL4s2s3s4:=hideR (IntsS.keep (keep_set w ((u2.setCell ⟨w.heap.size,2,none⟩ (.int .i64 z2.op)).setCell ⟨w.heap.size,3,none⟩ (.int .i64 z2.a)) 4 (.int .i64 z2.b)) HL4s2s3.out)
    clear HL4s2s3
    have HL5s2s3s4:=hideR (AtS.keep (keep_set w ((u2.setCell ⟨w.heap.size,2,none⟩ (.int .i64 z2.op)).setCell ⟨w.heap.size,3,none⟩ (.int .i64 z2.a)) 4 (.int .i64 z2.b)) _ _ _ HL5s2s3.out)
    clear HL5s2s3
    have HL6s2s3s4:=hideR (AtS.keep (keep_set w ((u2.setCell ⟨w.heap.size,2,none⟩ (.int .i64 z2.op)).setCell ⟨w.heap.size,3,none⟩ (.int .i64 z2.a)) 4 (.int .i64 z2.b)) _ _ _ HL6s2s3.out)
    clear HL6s2s3
    have HS22345:Hid (LI w0 w p s c en k q2 n 77 #[.int .i64 z0,.bool z1,.int .i64 z2.op,.int .i64 z2.a,.int .i64 z2.b,.int .i64 z2.n,.slice none 0 0,.slice none 0 0,.slice none 0 0] ((((u2.setCell ⟨w.heap.size,2,none⟩ (.int .i64 z2.op)).setCell ⟨w.heap.size,3,none⟩ (.int .i64 z2.a)).setCell ⟨w.heap.size,4,none⟩ (.int .i64 z2.b)).setCell ⟨w.heap.size,5,none⟩ (.int .i64 z2.n))):=hideR (HS2234.out.set 5 _)
    have HL4s2s3s4s5:=hideR (IntsS.keep (keep_set w (((u2.setCell ⟨w.heap.size,2,none⟩ (.int .i64 z2.op)).setCell ⟨w.heap.size,3,none⟩ (.int .i64 z2.a)).setCell ⟨w.heap.size,4,none⟩ (.int .i64 z2.b)) 5 (.int .i64 z2.n)) HL4s2s3s4.out)
    clear HL4s2s3s4
    have HL5s2s3s4s5:=hideR (AtS.keep (keep_set w (((u2.setCell ⟨w.heap.size,2,none⟩ (.int .i64 z2.op)).setCell ⟨w.heap.size,3,none⟩ (.int .i64 z2.a)).setCell ⟨w.heap.size,4,none⟩ (.int .i64 z2.b)) 5 (.int .i64 z2.n)) _ _ _ HL5s2s3s4.out)
    clear HL5s2s3s4
    have HL6s2s3s4s5:=hideR (AtS.keep (keep_set w (((u2.setCell ⟨w.heap.size,2,none⟩ (.int .i64 z2.op)).setCell ⟨w.heap.size,3,none⟩ (.int .i64 z2.a)).setCell ⟨w.heap.size,4,none⟩ (.int .i64 z2.b)) 5 (.int .i64 z2.n)) _ _ _ HL6s2s3s4.out)
    clear HL6s2s3s4
    have HS223456:Hid (LI w0 w p s c en k q2 n 77 #[.int .i64 z0,.bool z1,.int .i64 z2.op,.int .i64 z2.a,.int .i64 z2.b,.int .i64 z2.n,.slice o4 n4 k4,.slice none 0 0,.slice none 0 0] (((((u2.setCell ⟨w.heap.size,2,none⟩ (.int .i64 z2.op)).setCell ⟨w.heap.size,3,none⟩ (.int .i64 z2.a)).setCell ⟨w.heap.size,4,none⟩ (.int .i64 z2.b)).setCell ⟨w.heap.size,5,none⟩ (.int .i64 z2.n)).setCell ⟨w.heap.size,6,none⟩ (.slice o4 n4 k4))):=hideR (HS22345.out.set 6 _)
    have HL4s2s3s4s5s6:=hideR (IntsS.keep (keep_set w ((((u2.setCell ⟨w.heap.size,2,none⟩ (.int .i64 z2.op)).setCell ⟨w.heap.size,3,none⟩ (.int .i64 z2.a)).setCell ⟨w.heap.size,4,none⟩ (.int .i64 z2.b)).setCell ⟨w.heap.size,5,none⟩ (.int .i64 z2.n)) 6 (.slice o4 n4 k4)) HL4s2s3s4s5.out)
    clear HL4s2s3s4s5
    have HL5s2s3s4s5s6:=hideR (AtS.keep (keep_set w ((((u2.setCell ⟨w.heap.size,2,none⟩ (.int .i64 z2.op)).setCell ⟨w.heap.size,3,none⟩ (.int .i64 z2.a)).setCell ⟨w.heap.size,4,none⟩ (.int .i64 z2.b)).setCell ⟨w.heap.size,5,none⟩ (.int .i64 z2.n)) 6 (.slice o4 n4 k4)) _ _ _ HL5s2s3s4s5.out)
    clear HL5s2s3s4s5
    have HL6s2s3s4s5s6:=hideR (AtS.keep (keep_set w ((((u2.setCell ⟨w.heap.size,2,none⟩ (.int .i64 z2.op)).setCell ⟨w.heap.size,3,none⟩ (.int .i64 z2.a)).setCell ⟨w.heap.size,4,none⟩ (.int .i64 z2.b)).setCell ⟨w.heap.size,5,none⟩ (.int .i64 z2.n)) 6 (.slice o4 n4 k4)) _ _ _ HL6s2s3s4s5.out)
    clear HL6s2s3s4s5
    have HS2234567:Hid (LI w0 w p s c en k q2 n 77 #[.int .i64 z0,.bool z1,.int .i64 z2.op,.int .i64 z2.a,.int .i64 z2.b,.int .i64 z2.n,.slice o4 n4 k4,.slice o5 n5 k5,.slice none 0 0] ((((((u2.setCell ⟨w.heap.size,2,none⟩ (.int .i64 z2.op)).setCell ⟨w.heap.size,3,none⟩ (.int .i64 z2.a)).setCell ⟨w.heap.size,4,none⟩ (.int .i64 z2.b)).setCell ⟨w.heap.size,5,none⟩ (.int .i64 z2.n)).setCell ⟨w.heap.size,6,none⟩ (.slice o4 n4 k4)).setCell ⟨w.heap.size,7,none⟩ (.slice o5 n5 k5))):=hideR (HS223456.out.set 7 _)
    have HL4s2s3s4s5s6s7:=hideR (IntsS.keep (keep_set w (((((u2.setCell ⟨w.heap.size,2,none⟩ (.int .i64 z2.op)).setCell ⟨w.heap.size,3,none⟩ (.int .i64 z2.a)).setCell ⟨w.heap.size,4,none⟩ (.int .i64 z2.b)).setCell ⟨w.heap.size,5,none⟩ (.int .i64 z2.n)).setCell ⟨w.heap.size,6,none⟩ (.slice o4 n4 k4)) 7 (.slice o5 n5 k5)) HL4s2s3s4s5s6.out)
    clear HL4s2s3s4s5s6
    have HL5s2s3s4s5s6s7:=hideR (AtS.keep (keep_set w (((((u2.setCell ⟨w.heap.size,2,none⟩ (.int .i64 z2.op)).setCell ⟨w.heap.size,3,none⟩ (.int .i64 z2.a)).setCell ⟨w.heap.size,4,none⟩ (.int .i64 z2.b)).setCell ⟨w.heap.size,5,none⟩ (.int .i64 z2.n)).setCell ⟨w.heap.size,6,none⟩ (.slice o4 n4 k4)) 7 (.slice o5 n5 k5)) _ _ _ HL5s2s3s4s5s6.out)
    clear HL5s2s3s4s5s6
    have HL6s2s3s4s5s6s7:=hideR (AtS.keep (keep_set w (((((u2.setCell ⟨w.heap.size,2,none⟩ (.int .i64 z2.op)).setCell ⟨w.heap.size,3,none⟩ (.int .i64 z2.a)).setCell ⟨w.heap.size,4,none⟩ (.int .i64 z2.b)).setCell ⟨w.heap.size,5,none⟩ (.int .i64 z2.n)).setCell ⟨w.heap.size,6,none⟩ (.slice o4 n4 k4)) 7 (.slice o5 n5 k5)) _ _ _ HL6s2s3s4s5s6.out)
    clear HL6s2s3s4s5s6
    have HS22345678:Hid (LI w0 w p s c en k q2 n 77 #[.int .i64 z0,.bool z1,.int .i64 z2.op,.int .i64 z2.a,.int .i64 z2.b,.int .i64 z2.n,.slice o4 n4 k4,.slice o5 n5 k5,.slice o6 n6 k6] (((((((u2.setCell ⟨w.heap.size,2,none⟩ (.int .i64 z2.op)).setCell ⟨w.heap.size,3,none⟩ (.int .i64 z2.a)).setCell ⟨w.heap.size,4,none⟩ (.int .i64 z2.b)).setCell ⟨w.heap.size,5,none⟩ (.int .i64 z2.n)).setCell ⟨w.heap.size,6,none⟩ (.slice o4 n4 k4)).setCell ⟨w.heap.size,7,none⟩ (.slice o5 n5 k5)).setCell ⟨w.heap.size,8,none⟩ (.slice o6 n6 k6))):=hideR (HS2234567.out.set 8 _)
    have HL4s2s3s4s5s6s7s8:=hideR (IntsS.keep (keep_set w ((((((u2.setCell ⟨w.heap.size,2,none⟩ (.int .i64 z2.op)).setCell ⟨w.heap.size,3,none⟩ (.int .i64 z2.a)).setCell ⟨w.heap.size,4,none⟩ (.int .i64 z2.b)).setCell ⟨w.heap.size,5,none⟩ (.int .i64 z2.n)).setCell ⟨w.heap.size,6,none⟩ (.slice o4 n4 k4)).setCell ⟨w.heap.size,7,none⟩ (.slice o5 n5 k5)) 8 (.slice o6 n6 k6)) HL4s2s3s4s5s6s7.out)
    clear HL4s2s3s4s5s6s7
    have HL5s2s3s4s5s6s7s8:=hideR (AtS.keep (keep_set w ((((((u2.setCell ⟨w.heap.size,2,none⟩ (.int .i64 z2.op)).setCell ⟨w.heap.size,3,none⟩ (.int .i64 z2.a)).setCell ⟨w.heap.size,4,none⟩ (.int .i64 z2.b)).setCell ⟨w.heap.size,5,none⟩ (.int .i64 z2.n)).setCell ⟨w.heap.size,6,none⟩ (.slice o4 n4 k4)).setCell ⟨w.heap.size,7,none⟩ (.slice o5 n5 k5)) 8 (.slice o6 n6 k6)) _ _ _ HL5s2s3s4s5s6s7.out)
    clear HL5s2s3s4s5s6s7
    have HL6s2s3s4s5s6s7s8:=hideR (AtS.keep (keep_set w ((((((u2.setCell ⟨w.heap.size,2,none⟩ (.int .i64 z2.op)).setCell ⟨w.heap.size,3,none⟩ (.int .i64 z2.a)).setCell ⟨w.heap.size,4,none⟩ (.int .i64 z2.b)).setCell ⟨w.heap.size,5,none⟩ (.int .i64 z2.n)).setCell ⟨w.heap.size,6,none⟩ (.slice o4 n4 k4)).setCell ⟨w.heap.size,7,none⟩ (.slice o5 n5 k5)) 8 (.slice o6 n6 k6)) _ _ _ HL6s2s3s4s5s6s7.out)
    clear HL6s2s3s4s5s6s7
    have x0:=HS22345678.out.cell 0 _ rfl
    have y0:=HS22345678.out.frz 0
    have x1:=HS22345678.out.cell 1 _ rfl
    have y1:=HS22345678.out.frz 1
    have x2:=HS22345678.out.cell 2 _ rfl
    have y2:=HS22345678.out.frz 2
    have x3:=HS22345678.out.cell 3 _ rfl
    have y3:=HS22345678.out.frz 3
    have x4:=HS22345678.out.cell 4 _ rfl
    have y4:=HS22345678.out.frz 4
    have x5:=HS22345678.out.cell 5 _ rfl
    have y5:=HS22345678.out.frz 5
    have x6:=HS22345678.out.cell 6 _ rfl
    have y6:=HS22345678.out.frz 6
    have x7:=HS22345678.out.cell 7 _ rfl
    have y7:=HS22345678.out.frz 7
    have x8:=HS22345678.out.cell 8 _ rfl
    have y8:=HS22345678.out.frz 8
    go_wp2
    have HT0:Hid (LI w0 w p s c en k q2 n 77 #[.int .i64 z0,.bool z1,.int .i64 z2.op,.int .i64 z2.a,.int .i64 z2.b,.int .i64 z2.n,.slice o4 n4 k4,.slice o5 n5 k5,.slice o6 n6 k6] ((((((((u2.setCell ⟨w.heap.size,2,none⟩ (.int .i64 z2.op)).setCell ⟨w.heap.size,3,none⟩ (.int .i64 z2.a)).setCell ⟨w.heap.size,4,none⟩ (.int .i64 z2.b)).setCell ⟨w.heap.size,5,none⟩ (.int .i64 z2.n)).setCell ⟨w.heap.size,6,none⟩ (.slice o4 n4 k4)).setCell ⟨w.heap.size,7,none⟩ (.slice o5 n5 k5)).setCell ⟨w.heap.size,8,none⟩ (.slice o6 n6 k6)).setCell ⟨w.heap.size,0,none⟩ (.int .i64 z0))):=hideR (HS22345678.out.set 0 _)
    have HL4s2s3s4s5s6s7s8s0:=hideR (IntsS.keep (keep_set w (((((((u2.setCell ⟨w.heap.size,2,none⟩ (.int .i64 z2.op)).setCell ⟨w.heap.size,3,none⟩ (.int .i64 z2.a)).setCell ⟨w.heap.size,4,none⟩ (.int .i64 z2.b)).setCell ⟨w.heap.size,5,none⟩ (.int .i64 z2.n)).setCell ⟨w.heap.size,6,none⟩ (.slice o4 n4 k4)).setCell ⟨w.heap.size,7,none⟩ (.slice o5 n5 k5)).setCell ⟨w.heap.size,8,none⟩ (.slice o6 n6 k6)) 0 (.int .i64 z0)) HL4s2s3s4s5s6s7s8.out)
    clear HL4s2s3s4s5s6s7s8
    have HL5s2s3s4s5s6s7s8s0:=hideR (AtS.keep (keep_set w (((((((u2.setCell ⟨w.heap.size,2,none⟩ (.int .i64 z2.op)).setCell ⟨w.heap.size,3,none⟩ (.int .i64 z2.a)).setCell ⟨w.heap.size,4,none⟩ (.int .i64 z2.b)).setCell ⟨w.heap.size,5,none⟩ (.int .i64 z2.n)).setCell ⟨w.heap.size,6,none⟩ (.slice o4 n4 k4)).setCell ⟨w.heap.size,7,none⟩ (.slice o5 n5 k5)).setCell ⟨w.heap.size,8,none⟩ (.slice o6 n6 k6)) 0 (.int .i64 z0)) _ _ _ HL5s2s3s4s5s6s7s8.out)
    clear HL5s2s3s4s5s6s7s8
    have HL6s2s3s4s5s6s7s8s0:=hideR (AtS.keep (keep_set w (((((((u2.setCell ⟨w.heap.size,2,none⟩ (.int .i64 z2.op)).setCell ⟨w.heap.size,3,none⟩ (.int .i64 z2.a)).setCell ⟨w.heap.size,4,none⟩ (.int .i64 z2.b)).setCell ⟨w.heap.size,5,none⟩ (.int .i64 z2.n)).setCell ⟨w.heap.size,6,none⟩ (.slice o4 n4 k4)).setCell ⟨w.heap.size,7,none⟩ (.slice o5 n5 k5)).setCell ⟨w.heap.size,8,none⟩ (.slice o6 n6 k6)) 0 (.int .i64 z0)) _ _ _ HL6s2s3s4s5s6s7s8.out)
    clear HL6s2s3s4s5s6s7s8
    have HT1:Hid (LI w0 w p s c en k q2 n 77 #[.int .i64 z0,.bool z1,.int .i64 z2.op,.int .i64 z2.a,.int .i64 z2.b,.int .i64 z2.n,.slice o4 n4 k4,.slice o5 n5 k5,.slice o6 n6 k6] (((((((((u2.setCell ⟨w.heap.size,2,none⟩ (.int .i64 z2.op)).setCell ⟨w.heap.size,3,none⟩ (.int .i64 z2.a)).setCell ⟨w.heap.size,4,none⟩ (.int .i64 z2.b)).setCell ⟨w.heap.size,5,none⟩ (.int .i64 z2.n)).setCell ⟨w.heap.size,6,none⟩ (.slice o4 n4 k4)).setCell ⟨w.heap.size,7,none⟩ (.slice o5 n5 k5)).setCell ⟨w.heap.size,8,none⟩ (.slice o6 n6 k6)).setCell ⟨w.heap.size,0,none⟩ (.int .i64 z0)).setCell ⟨w.heap.size,1,none⟩ (.bool z1))):=hideR (HT0.out.set 1 _)
    have HL4s2s3s4s5s6s7s8s0s1:=hideR (IntsS.keep (keep_set w ((((((((u2.setCell ⟨w.heap.size,2,none⟩ (.int .i64 z2.op)).setCell ⟨w.heap.size,3,none⟩ (.int .i64 z2.a)).setCell ⟨w.heap.size,4,none⟩ (.int .i64 z2.b)).setCell ⟨w.heap.size,5,none⟩ (.int .i64 z2.n)).setCell ⟨w.heap.size,6,none⟩ (.slice o4 n4 k4)).setCell ⟨w.heap.size,7,none⟩ (.slice o5 n5 k5)).setCell ⟨w.heap.size,8,none⟩ (.slice o6 n6 k6)).setCell ⟨w.heap.size,0,none⟩ (.int .i64 z0)) 1 (.bool z1)) HL4s2s3s4s5s6s7s8s0.out)
    clear HL4s2s3s4s5s6s7s8s0
    have HL5s2s3s4s5s6s7s8s0s1:=hideR (AtS.keep (keep_set w ((((((((u2.setCell ⟨w.heap.size,2,none⟩ (.int .i64 z2.op)).setCell ⟨w.heap.size,3,none⟩ (.int .i64 z2.a)).setCell ⟨w.heap.size,4,none⟩ (.int .i64 z2.b)).setCell ⟨w.heap.size,5,none⟩ (.int .i64 z2.n)).setCell ⟨w.heap.size,6,none⟩ (.slice o4 n4 k4)).setCell ⟨w.heap.size,7,none⟩ (.slice o5 n5 k5)).setCell ⟨w.heap.size,8,none⟩ (.slice o6 n6 k6)).setCell ⟨w.heap.size,0,none⟩ (.int .i64 z0)) 1 (.bool z1)) _ _ _ HL5s2s3s4s5s6s7s8s0.out)
    clear HL5s2s3s4s5s6s7s8s0
    have HL6s2s3s4s5s6s7s8s0s1:=hideR (AtS.keep (keep_set w ((((((((u2.setCell ⟨w.heap.size,2,none⟩ (.int .i64 z2.op)).setCell ⟨w.heap.size,3,none⟩ (.int .i64 z2.a)).setCell ⟨w.heap.size,4,none⟩ (.int .i64 z2.b)).setCell ⟨w.heap.size,5,none⟩ (.int .i64 z2.n)).setCell ⟨w.heap.size,6,none⟩ (.slice o4 n4 k4)).setCell ⟨w.heap.size,7,none⟩ (.slice o5 n5 k5)).setCell ⟨w.heap.size,8,none⟩ (.slice o6 n6 k6)).setCell ⟨w.heap.size,0,none⟩ (.int .i64 z0)) 1 (.bool z1)) _ _ _ HL6s2s3s4s5s6s7s8s0.out)
    clear HL6s2s3s4s5s6s7s8s0
    have HT2:Hid (LI w0 w p s c en k q2 n 77 #[.int .i64 z0,.bool z1,.int .i64 z2.op,.int .i64 z2.a,.int .i64 z2.b,.int .i64 z2.n,.slice o4 n4 k4,.slice o5 n5 k5,.slice o6 n6 k6] ((((((((((u2.setCell ⟨w.heap.size,2,none⟩ (.int .i64 z2.op)).setCell ⟨w.heap.size,3,none⟩ (.int .i64 z2.a)).setCell ⟨w.heap.size,4,none⟩ (.int .i64 z2.b)).setCell ⟨w.heap.size,5,none⟩ (.int .i64 z2.n)).setCell ⟨w.heap.size,6,none⟩ (.slice o4 n4 k4)).setCell ⟨w.heap.size,7,none⟩ (.slice o5 n5 k5)).setCell ⟨w.heap.size,8,none⟩ (.slice o6 n6 k6)).setCell ⟨w.heap.size,0,none⟩ (.int .i64 z0)).setCell ⟨w.heap.size,1,none⟩ (.bool z1)).setCell ⟨w.heap.size,2,none⟩ (.int .i64 z2.op))):=hideR (HT1.out.set 2 _)
    have HL4s2s3s4s5s6s7s8s0s1s2:=hideR (IntsS.keep (keep_set w (((((((((u2.setCell ⟨w.heap.size,2,none⟩ (.int .i64 z2.op)).setCell ⟨w.heap.size,3,none⟩ (.int .i64 z2.a)).setCell ⟨w.heap.size,4,none⟩ (.int .i64 z2.b)).setCell ⟨w.heap.size,5,none⟩ (.int .i64 z2.n)).setCell ⟨w.heap.size,6,none⟩ (.slice o4 n4 k4)).setCell ⟨w.heap.size,7,none⟩ (.slice o5 n5 k5)).setCell ⟨w.heap.size,8,none⟩ (.slice o6 n6 k6)).setCell ⟨w.heap.size,0,none⟩ (.int .i64 z0)).setCell ⟨w.heap.size,1,none⟩ (.bool z1)) 2 (.int .i64 z2.op)) HL4s2s3s4s5s6s7s8s0s1.out)
    clear HL4s2s3s4s5s6s7s8s0s1
    have HL5s2s3s4s5s6s7s8s0s1s2:=hideR (AtS.keep (keep_set w (((((((((u2.setCell ⟨w.heap.size,2,none⟩ (.int .i64 z2.op)).setCell ⟨w.heap.size,3,none⟩ (.int .i64 z2.a)).setCell ⟨w.heap.size,4,none⟩ (.int .i64 z2.b)).setCell ⟨w.heap.size,5,none⟩ (.int .i64 z2.n)).setCell ⟨w.heap.size,6,none⟩ (.slice o4 n4 k4)).setCell ⟨w.heap.size,7,none⟩ (.slice o5 n5 k5)).setCell ⟨w.heap.size,8,none⟩ (.slice o6 n6 k6)).setCell ⟨w.heap.size,0,none⟩ (.int .i64 z0)).setCell ⟨w.heap.size,1,none⟩ (.bool z1)) 2 (.int .i64 z2.op)) _ _ _ HL5s2s3s4s5s6s7s8s0s1.out)
    clear HL5s2s3s4s5s6s7s8s0s1
    have HL6s2s3s4s5s6s7s8s0s1s2:=hideR (AtS.keep (keep_set w (((((((((u2.setCell ⟨w.heap.size,2,none⟩ (.int .i64 z2.op)).setCell ⟨w.heap.size,3,none⟩ (.int .i64 z2.a)).setCell ⟨w.heap.size,4,none⟩ (.int .i64 z2.b)).setCell ⟨w.heap.size,5,none⟩ (.int .i64 z2.n)).setCell ⟨w.heap.size,6,none⟩ (.slice o4 n4 k4)).setCell ⟨w.heap.size,7,none⟩ (.slice o5 n5 k5)).setCell ⟨w.heap.size,8,none⟩ (.slice o6 n6 k6)).setCell ⟨w.heap.size,0,none⟩ (.int .i64 z0)).setCell ⟨w.heap.size,1,none⟩ (.bool z1)) 2 (.int .i64 z2.op)) _ _ _ HL6s2s3s4s5s6s7s8s0s1.out)
    clear HL6s2s3s4s5s6s7s8s0s1
    have HT3:Hid (LI w0 w p s c en k q2 n 77 #[.int .i64 z0,.bool z1,.int .i64 z2.op,.int .i64 z2.a,.int .i64 z2.b,.int .i64 z2.n,.slice o4 n4 k4,.slice o5 n5 k5,.slice o6 n6 k6] (((((((((((u2.setCell ⟨w.heap.size,2,none⟩ (.int .i64 z2.op)).setCell ⟨w.heap.size,3,none⟩ (.int .i64 z2.a)).setCell ⟨w.heap.size,4,none⟩ (.int .i64 z2.b)).setCell ⟨w.heap.size,5,none⟩ (.int .i64 z2.n)).setCell ⟨w.heap.size,6,none⟩ (.slice o4 n4 k4)).setCell ⟨w.heap.size,7,none⟩ (.slice o5 n5 k5)).setCell ⟨w.heap.size,8,none⟩ (.slice o6 n6 k6)).setCell ⟨w.heap.size,0,none⟩ (.int .i64 z0)).setCell ⟨w.heap.size,1,none⟩ (.bool z1)).setCell ⟨w.heap.size,2,none⟩ (.int .i64 z2.op)).setCell ⟨w.heap.size,3,none⟩ (.int .i64 z2.a))):=hideR (HT2.out.set 3 _)
    have HL4s2s3s4s5s6s7s8s0s1s2s3:=hideR (IntsS.keep (keep_set w ((((((((((u2.setCell ⟨w.heap.size,2,none⟩ (.int .i64 z2.op)).setCell ⟨w.heap.size,3,none⟩ (.int .i64 z2.a)).setCell ⟨w.heap.size,4,none⟩ (.int .i64 z2.b)).setCell ⟨w.heap.size,5,none⟩ (.int .i64 z2.n)).setCell ⟨w.heap.size,6,none⟩ (.slice o4 n4 k4)).setCell ⟨w.heap.size,7,none⟩ (.slice o5 n5 k5)).setCell ⟨w.heap.size,8,none⟩ (.slice o6 n6 k6)).setCell ⟨w.heap.size,0,none⟩ (.int .i64 z0)).setCell ⟨w.heap.size,1,none⟩ (.bool z1)).setCell ⟨w.heap.size,2,none⟩ (.int .i64 z2.op)) 3 (.int .i64 z2.a)) HL4s2s3s4s5s6s7s8s0s1s2.out)
    clear HL4s2s3s4s5s6s7s8s0s1s2
    have HL5s2s3s4s5s6s7s8s0s1s2s3:=hideR (AtS.keep (keep_set w ((((((((((u2.setCell ⟨w.heap.size,2,none⟩ (.int .i64 z2.op)).setCell ⟨w.heap.size,3,none⟩ (.int .i64 z2.a)).setCell ⟨w.heap.size,4,none⟩ (.int .i64 z2.b)).setCell ⟨w.heap.size,5,none⟩ (.int .i64 z2.n)).setCell ⟨w.heap.size,6,none⟩ (.slice o4 n4 k4)).setCell ⟨w.heap.size,7,none⟩ (.slice o5 n5 k5)).setCell ⟨w.heap.size,8,none⟩ (.slice o6 n6 k6)).setCell ⟨w.heap.size,0,none⟩ (.int .i64 z0)).setCell ⟨w.heap.size,1,none⟩ (.bool z1)).setCell ⟨w.heap.size,2,none⟩ (.int .i64 z2.op)) 3 (.int .i64 z2.a)) _ _ _ HL5s2s3s4s5s6s7s8s0s1s2.out)
    clear HL5s2s3s4s5s6s7s8s0s1s2
    have HL6s2s3s4s5s6s7s8s0s1s2s3:=hideR (AtS.keep (keep_set w ((((((((((u2.setCell ⟨w.heap.size,2,none⟩ (.int .i64 z2.op)).setCell ⟨w.heap.size,3,none⟩ (.int .i64 z2.a)).setCell ⟨w.heap.size,4,none⟩ (.int .i64 z2.b)).setCell ⟨w.heap.size,5,none⟩ (.int .i64 z2.n)).setCell ⟨w.heap.size,6,none⟩ (.slice o4 n4 k4)).setCell ⟨w.heap.size,7,none⟩ (.slice o5 n5 k5)).setCell ⟨w.heap.size,8,none⟩ (.slice o6 n6 k6)).setCell ⟨w.heap.size,0,none⟩ (.int .i64 z0)).setCell ⟨w.heap.size,1,none⟩ (.bool z1)).setCell ⟨w.heap.size,2,none⟩ (.int .i64 z2.op)) 3 (.int .i64 z2.a)) _ _ _ HL6s2s3s4s5s6s7s8s0s1s2.out)
    clear HL6s2s3s4s5s6s7s8s0s1s2
    have HT4:Hid (LI w0 w p s c en k q2 n 77 #[.int .i64 z0,.bool z1,.int .i64 z2.op,.int .i64 z2.a,.int .i64 z2.b,.int .i64 z2.n,.slice o4 n4 k4,.slice o5 n5 k5,.slice o6 n6 k6] ((((((((((((u2.setCell ⟨w.heap.size,2,none⟩ (.int .i64 z2.op)).setCell ⟨w.heap.size,3,none⟩ (.int .i64 z2.a)).setCell ⟨w.heap.size,4,none⟩ (.int .i64 z2.b)).setCell ⟨w.heap.size,5,none⟩ (.int .i64 z2.n)).setCell ⟨w.heap.size,6,none⟩ (.slice o4 n4 k4)).setCell ⟨w.heap.size,7,none⟩ (.slice o5 n5 k5)).setCell ⟨w.heap.size,8,none⟩ (.slice o6 n6 k6)).setCell ⟨w.heap.size,0,none⟩ (.int .i64 z0)).setCell ⟨w.heap.size,1,none⟩ (.bool z1)).setCell ⟨w.heap.size,2,none⟩ (.int .i64 z2.op)).setCell ⟨w.heap.size,3,none⟩ (.int .i64 z2.a)).setCell ⟨w.heap.size,4,none⟩ (.int .i64 z2.b))):=hideR (HT3.out.set 4 _)
    have HL4s2s3s4s5s6s7s8s0s1s2s3s4:=hideR (IntsS.keep (keep_set w (((((((((((u2.setCell ⟨w.heap.size,2,none⟩ (.int .i64 z2.op)).setCell ⟨w.heap.size,3,none⟩ (.int .i64 z2.a)).setCell ⟨w.heap.size,4,none⟩ (.int .i64 z2.b)).setCell ⟨w.heap.size,5,none⟩ (.int .i64 z2.n)).setCell ⟨w.heap.size,6,none⟩ (.slice o4 n4 k4)).setCell ⟨w.heap.size,7,none⟩ (.slice o5 n5 k5)).setCell ⟨w.heap.size,8,none⟩ (.slice o6 n6 k6)).setCell ⟨w.heap.size,0,none⟩ (.int .i64 z0)).setCell ⟨w.heap.size,1,none⟩ (.bool z1)).setCell ⟨w.heap.size,2,none⟩ (.int .i64 z2.op)).setCell ⟨w.heap.size,3,none⟩ (.int .i64 z2.a)) 4 (.int .i64 z2.b)) HL4s2s3s4s5s6s7s8s0s1s2s3.out)
    clear HL4s2s3s4s5s6s7s8s0s1s2s3
    have HL5s2s3s4s5s6s7s8s0s1s2s3s4:=hideR (AtS.keep (keep_set w (((((((((((u2.setCell ⟨w.heap.size,2,none⟩ (.int .i64 z2.op)).setCell ⟨w.heap.size,3,none⟩ (.int .i64 z2.a)).setCell ⟨w.heap.size,4,none⟩ (.int .i64 z2.b)).setCell ⟨w.heap.size,5,none⟩ (.int .i64 z2.n)).setCell ⟨w.heap.size,6,none⟩ (.slice o4 n4 k4)).setCell ⟨w.heap.size,7,none⟩ (.slice o5 n5 k5)).setCell ⟨w.heap.size,8,none⟩ (.slice o6 n6 k6)).setCell ⟨w.heap.size,0,none⟩ (.int .i64 z0)).setCell ⟨w.heap.size,1,none⟩ (.bool z1)).setCell ⟨w.heap.size,2,none⟩ (.int .i64 z2.op)).setCell ⟨w.heap.size,3,none⟩ (.int .i64 z2.a)) 4 (.int .i64 z2.b)) _ _ _ HL5s2s3s4s5s6s7s8s0s1s2s3.out)
    clear HL5s2s3s4s5s6s7s8s0s1s2s3
    have HL6s2s3s4s5s6s7s8s0s1s2s3s4:=hideR (AtS.keep (keep_set w (((((((((((u2.setCell ⟨w.heap.size,2,none⟩ (.int .i64 z2.op)).setCell ⟨w.heap.size,3,none⟩ (.int .i64 z2.a)).setCell ⟨w.heap.size,4,none⟩ (.int .i64 z2.b)).setCell ⟨w.heap.size,5,none⟩ (.int .i64 z2.n)).setCell ⟨w.heap.size,6,none⟩ (.slice o4 n4 k4)).setCell ⟨w.heap.size,7,none⟩ (.slice o5 n5 k5)).setCell ⟨w.heap.size,8,none⟩ (.slice o6 n6 k6)).setCell ⟨w.heap.size,0,none⟩ (.int .i64 z0)).setCell ⟨w.heap.size,1,none⟩ (.bool z1)).setCell ⟨w.heap.size,2,none⟩ (.int .i64 z2.op)).setCell ⟨w.heap.size,3,none⟩ (.int .i64 z2.a)) 4 (.int .i64 z2.b)) _ _ _ HL6s2s3s4s5s6s7s8s0s1s2s3.out)
    clear HL6s2s3s4s5s6s7s8s0s1s2s3
    have HT5:Hid (LI w0 w p s c en k q2 n 77 #[.int .i64 z0,.bool z1,.int .i64 z2.op,.int .i64 z2.a,.int .i64 z2.b,.int .i64 z2.n,.slice o4 n4 k4,.slice o5 n5 k5,.slice o6 n6 k6] (((((((((((((u2.setCell ⟨w.heap.size,2,none⟩ (.int .i64 z2.op)).setCell ⟨w.heap.size,3,none⟩ (.int .i64 z2.a)).setCell ⟨w.heap.size,4,none⟩ (.int .i64 z2.b)).setCell ⟨w.heap.size,5,none⟩ (.int .i64 z2.n)).setCell ⟨w.heap.size,6,none⟩ (.slice o4 n4 k4)).setCell ⟨w.heap.size,7,none⟩ (.slice o5 n5 k5)).setCell ⟨w.heap.size,8,none⟩ (.slice o6 n6 k6)).setCell ⟨w.heap.size,0,none⟩ (.int .i64 z0)).setCell ⟨w.heap.size,1,none⟩ (.bool z1)).setCell ⟨w.heap.size,2,none⟩ (.int .i64 z2.op)).setCell ⟨w.heap.size,3,none⟩ (.int .i64 z2.a)).setCell ⟨w.heap.size,4,none⟩ (.int .i64 z2.b)).setCell ⟨w.heap.size,5,none⟩ (.int .i64 z2.n))):=hideR (HT4.out.set 5 _)
    have HL4s2s3s4s5s6s7s8s0s1s2s3s4s5:=hideR (IntsS.keep (keep_set w ((((((((((((u2.setCell ⟨w.heap.size,2,none⟩ (.int .i64 z2.op)).setCell ⟨w.heap.size,3,none⟩ (.int .i64 z2.a)).setCell ⟨w.heap.size,4,none⟩ (.int .i64 z2.b)).setCell ⟨w.heap.size,5,none⟩ (.int .i64 z2.n)).setCell ⟨w.heap.size,6,none⟩ (.slice o4 n4 k4)).setCell ⟨w.heap.size,7,none⟩ (.slice o5 n5 k5)).setCell ⟨w.heap.size,8,none⟩ (.slice o6 n6 k6)).setCell ⟨w.heap.size,0,none⟩ (.int .i64 z0)).setCell ⟨w.heap.size,1,none⟩ (.bool z1)).setCell ⟨w.heap.size,2,none⟩ (.int .i64 z2.op)).setCell ⟨w.heap.size,3,none⟩ (.int .i64 z2.a)).setCell ⟨w.heap.size,4,none⟩ (.int .i64 z2.b)) 5 (.int .i64 z2.n)) HL4s2s3s4s5s6s7s8s0s1s2s3s4.out)
    clear HL4s2s3s4s5s6s7s8s0s1s2s3s4
    have HL5s2s3s4s5s6s7s8s0s1s2s3s4s5:=hideR (AtS.keep (keep_set w ((((((((((((u2.setCell ⟨w.heap.size,2,none⟩ (.int .i64 z2.op)).setCell ⟨w.heap.size,3,none⟩ (.int .i64 z2.a)).setCell ⟨w.heap.size,4,none⟩ (.int .i64 z2.b)).setCell ⟨w.heap.size,5,none⟩ (.int .i64 z2.n)).setCell ⟨w.heap.size,6,none⟩ (.slice o4 n4 k4)).setCell ⟨w.heap.size,7,none⟩ (.slice o5 n5 k5)).setCell ⟨w.heap.size,8,none⟩ (.slice o6 n6 k6)).setCell ⟨w.heap.size,0,none⟩ (.int .i64 z0)).setCell ⟨w.heap.size,1,none⟩ (.bool z1)).setCell ⟨w.heap.size,2,none⟩ (.int .i64 z2.op)).setCell ⟨w.heap.size,3,none⟩ (.int .i64 z2.a)).setCell ⟨w.heap.size,4,none⟩ (.int .i64 z2.b)) 5 (.int .i64 z2.n)) _ _ _ HL5s2s3s4s5s6s7s8s0s1s2s3s4.out)
    clear HL5s2s3s4s5s6s7s8s0s1s2s3s4
    have HL6s2s3s4s5s6s7s8s0s1s2s3s4s5:=hideR (AtS.keep (keep_set w ((((((((((((u2.setCell ⟨w.heap.size,2,none⟩ (.int .i64 z2.op)).setCell ⟨w.heap.size,3,none⟩ (.int .i64 z2.a)).setCell ⟨w.heap.size,4,none⟩ (.int .i64 z2.b)).setCell ⟨w.heap.size,5,none⟩ (.int .i64 z2.n)).setCell ⟨w.heap.size,6,none⟩ (.slice o4 n4 k4)).setCell ⟨w.heap.size,7,none⟩ (.slice o5 n5 k5)).setCell ⟨w.heap.size,8,none⟩ (.slice o6 n6 k6)).setCell ⟨w.heap.size,0,none⟩ (.int .i64 z0)).setCell ⟨w.heap.size,1,none⟩ (.bool z1)).setCell ⟨w.heap.size,2,none⟩ (.int .i64 z2.op)).setCell ⟨w.heap.size,3,none⟩ (.int .i64 z2.a)).setCell ⟨w.heap.size,4,none⟩ (.int .i64 z2.b)) 5 (.int .i64 z2.n)) _ _ _ HL6s2s3s4s5s6s7s8s0s1s2s3s4.out)
    clear HL6s2s3s4s5s6s7s8s0s1s2s3s4
    have HT6:Hid (LI w0 w p s c en k q2 n 77 #[.int .i64 z0,.bool z1,.int .i64 z2.op,.int .i64 z2.a,.int .i64 z2.b,.int .i64 z2.n,.slice o4 n4 k4,.slice o5 n5 k5,.slice o6 n6 k6] ((((((((((((((u2.setCell ⟨w.heap.size,2,none⟩ (.int .i64 z2.op)).setCell ⟨w.heap.size,3,none⟩ (.int .i64 z2.a)).setCell ⟨w.heap.size,4,none⟩ (.int .i64 z2.b)).setCell ⟨w.heap.size,5,none⟩ (.int .i64 z2.n)).setCell ⟨w.heap.size,6,none⟩ (.slice o4 n4 k4)).setCell ⟨w.heap.size,7,none⟩ (.slice o5 n5 k5)).setCell ⟨w.heap.size,8,none⟩ (.slice o6 n6 k6)).setCell ⟨w.heap.size,0,none⟩ (.int .i64 z0)).setCell ⟨w.heap.size,1,none⟩ (.bool z1)).setCell ⟨w.heap.size,2,none⟩ (.int .i64 z2.op)).setCell ⟨w.heap.size,3,none⟩ (.int .i64 z2.a)).setCell ⟨w.heap.size,4,none⟩ (.int .i64 z2.b)).setCell ⟨w.heap.size,5,none⟩ (.int .i64 z2.n)).setCell ⟨w.heap.size,6,none⟩ (.slice o4 n4 k4))):=hideR (HT5.out.set 6 _)
    have HL4s2s3s4s5s6s7s8s0s1s2s3s4s5s6:=hideR (IntsS.keep (keep_set w (((((((((((((u2.setCell ⟨w.heap.size,2,none⟩ (.int .i64 z2.op)).setCell ⟨w.heap.size,3,none⟩ (.int .i64 z2.a)).setCell ⟨w.heap.size,4,none⟩ (.int .i64 z2.b)).setCell ⟨w.heap.size,5,none⟩ (.int .i64 z2.n)).setCell ⟨w.heap.size,6,none⟩ (.slice o4 n4 k4)).setCell ⟨w.heap.size,7,none⟩ (.slice o5 n5 k5)).setCell ⟨w.heap.size,8,none⟩ (.slice o6 n6 k6)).setCell ⟨w.heap.size,0,none⟩ (.int .i64 z0)).setCell ⟨w.heap.size,1,none⟩ (.bool z1)).setCell ⟨w.heap.size,2,none⟩ (.int .i64 z2.op)).setCell ⟨w.heap.size,3,none⟩ (.int .i64 z2.a)).setCell ⟨w.heap.size,4,none⟩ (.int .i64 z2.b)).setCell ⟨w.heap.size,5,none⟩ (.int .i64 z2.n)) 6 (.slice o4 n4 k4)) HL4s2s3s4s5s6s7s8s0s1s2s3s4s5.out)
    clear HL4s2s3s4s5s6s7s8s0s1s2s3s4s5
    have HL5s2s3s4s5s6s7s8s0s1s2s3s4s5s6:=hideR (AtS.keep (keep_set w (((((((((((((u2.setCell ⟨w.heap.size,2,none⟩ (.int .i64 z2.op)).setCell ⟨w.heap.size,3,none⟩ (.int .i64 z2.a)).setCell ⟨w.heap.size,4,none⟩ (.int .i64 z2.b)).setCell ⟨w.heap.size,5,none⟩ (.int .i64 z2.n)).setCell ⟨w.heap.size,6,none⟩ (.slice o4 n4 k4)).setCell ⟨w.heap.size,7,none⟩ (.slice o5 n5 k5)).setCell ⟨w.heap.size,8,none⟩ (.slice o6 n6 k6)).setCell ⟨w.heap.size,0,none⟩ (.int .i64 z0)).setCell ⟨w.heap.size,1,none⟩ (.bool z1)).setCell ⟨w.heap.size,2,none⟩ (.int .i64 z2.op)).setCell ⟨w.heap.size,3,none⟩ (.int .i64 z2.a)).setCell ⟨w.heap.size,4,none⟩ (.int .i64 z2.b)).setCell ⟨w.heap.size,5,none⟩ (.int .i64 z2.n)) 6 (.slice o4 n4 k4)) _ _ _ HL5s2s3s4s5s6s7s8s0s1s2s3s4s5.out)
    clear HL5s2s3s4s5s6s7s8s0s1s2s3s4s5
    have HL6s2s3s4s5s6s7s8s0s1s2s3s4s5s6:=hideR (AtS.keep (keep_set w (((((((((((((u2.setCell ⟨w.heap.size,2,none⟩ (.int .i64 z2.op)).setCell ⟨w.heap.size,3,none⟩ (.int .i64 z2.a)).setCell ⟨w.heap.size,4,none⟩ (.int .i64 z2.b)).setCell ⟨w.heap.size,5,none⟩ (.int .i64 z2.n)).setCell ⟨w.heap.size,6,none⟩ (.slice o4 n4 k4)).setCell ⟨w.heap.size,7,none⟩ (.slice o5 n5 k5)).setCell ⟨w.heap.size,8,none⟩ (.slice o6 n6 k6)).setCell ⟨w.heap.size,0,none⟩ (.int .i64 z0)).setCell ⟨w.heap.size,1,none⟩ (.bool z1)).setCell ⟨w.heap.size,2,none⟩ (.int .i64 z2.op)).setCell ⟨w.heap.size,3,none⟩ (.int .i64 z2.a)).setCell ⟨w.heap.size,4,none⟩ (.int .i64 z2.b)).setCell ⟨w.heap.size,5,none⟩ (.int .i64 z2.n)) 6 (.slice o4 n4 k4)) _ _ _ HL6s2s3s4s5s6s7s8s0s1s2s3s4s5.out)
    clear HL6s2s3s4s5s6s7s8s0s1s2s3s4s5
    have HT7:Hid (LI w0 w p s c en k q2 n 77 #[.int .i64 z0,.bool z1,.int .i64 z2.op,.int .i64 z2.a,.int .i64 z2.b,.int .i64 z2.n,.slice o4 n4 k4,.slice o5 n5 k5,.slice o6 n6 k6] (((((((((((((((u2.setCell ⟨w.heap.size,2,none⟩ (.int .i64 z2.op)).setCell ⟨w.heap.size,3,none⟩ (.int .i64 z2.a)).setCell ⟨w.heap.size,4,none⟩ (.int .i64 z2.b)).setCell ⟨w.heap.size,5,none⟩ (.int .i64 z2.n)).setCell ⟨w.heap.size,6,none⟩ (.slice o4 n4 k4)).setCell ⟨w.heap.size,7,none⟩ (.slice o5 n5 k5)).setCell ⟨w.heap.size,8,none⟩ (.slice o6 n6 k6)).setCell ⟨w.heap.size,0,none⟩ (.int .i64 z0)).setCell ⟨w.heap.size,1,none⟩ (.bool z1)).setCell ⟨w.heap.size,2,none⟩ (.int .i64 z2.op)).setCell ⟨w.heap.size,3,none⟩ (.int .i64 z2.a)).setCell ⟨w.heap.size,4,none⟩ (.int .i64 z2.b)).setCell ⟨w.heap.size,5,none⟩ (.int .i64 z2.n)).setCell ⟨w.heap.size,6,none⟩ (.slice o4 n4 k4)).setCell ⟨w.heap.size,7,none⟩ (.slice o5 n5 k5))):=hideR (HT6.out.set 7 _)
    have HL4s2s3s4s5s6s7s8s0s1s2s3s4s5s6s7:=hideR (IntsS.keep (keep_set w ((((((((((((((u2.setCell ⟨w.heap.size,2,none⟩ (.int .i64 z2.op)).setCell ⟨w.heap.size,3,none⟩ (.int .i64 z2.a)).setCell ⟨w.heap.size,4,none⟩ (.int .i64 z2.b)).setCell ⟨w.heap.size,5,none⟩ (.int .i64 z2.n)).setCell ⟨w.heap.size,6,none⟩ (.slice o4 n4 k4)).setCell ⟨w.heap.size,7,none⟩ (.slice o5 n5 k5)).setCell ⟨w.heap.size,8,none⟩ (.slice o6 n6 k6)).setCell ⟨w.heap.size,0,none⟩ (.int .i64 z0)).setCell ⟨w.heap.size,1,none⟩ (.bool z1)).setCell ⟨w.heap.size,2,none⟩ (.int .i64 z2.op)).setCell ⟨w.heap.size,3,none⟩ (.int .i64 z2.a)).setCell ⟨w.heap.size,4,none⟩ (.int .i64 z2.b)).setCell ⟨w.heap.size,5,none⟩ (.int .i64 z2.n)).setCell ⟨w.heap.size,6,none⟩ (.slice o4 n4 k4)) 7 (.slice o5 n5 k5)) HL4s2s3s4s5s6s7s8s0s1s2s3s4s5s6.out)
    clear HL4s2s3s4s5s6s7s8s0s1s2s3s4s5s6
    have HL5s2s3s4s5s6s7s8s0s1s2s3s4s5s6s7:=hideR (AtS.keep (keep_set w ((((((((((((((u2.setCell ⟨w.heap.size,2,none⟩ (.int .i64 z2.op)).setCell ⟨w.heap.size,3,none⟩ (.int .i64 z2.a)).setCell ⟨w.heap.size,4,none⟩ (.int .i64 z2.b)).setCell ⟨w.heap.size,5,none⟩ (.int .i64 z2.n)).setCell ⟨w.heap.size,6,none⟩ (.slice o4 n4 k4)).setCell ⟨w.heap.size,7,none⟩ (.slice o5 n5 k5)).setCell ⟨w.heap.size,8,none⟩ (.slice o6 n6 k6)).setCell ⟨w.heap.size,0,none⟩ (.int .i64 z0)).setCell ⟨w.heap.size,1,none⟩ (.bool z1)).setCell ⟨w.heap.size,2,none⟩ (.int .i64 z2.op)).setCell ⟨w.heap.size,3,none⟩ (.int .i64 z2.a)).setCell ⟨w.heap.size,4,none⟩ (.int .i64 z2.b)).setCell ⟨w.heap.size,5,none⟩ (.int .i64 z2.n)).setCell ⟨w.heap.size,6,none⟩ (.slice o4 n4 k4)) 7 (.slice o5 n5 k5)) _ _ _ HL5s2s3s4s5s6s7s8s0s1s2s3s4s5s6.out)
    clear HL5s2s3s4s5s6s7s8s0s1s2s3s4s5s6
    have HL6s2s3s4s5s6s7s8s0s1s2s3s4s5s6s7:=hideR (AtS.keep (keep_set w ((((((((((((((u2.setCell ⟨w.heap.size,2,none⟩ (.int .i64 z2.op)).setCell ⟨w.heap.size,3,none⟩ (.int .i64 z2.a)).setCell ⟨w.heap.size,4,none⟩ (.int .i64 z2.b)).setCell ⟨w.heap.size,5,none⟩ (.int .i64 z2.n)).setCell ⟨w.heap.size,6,none⟩ (.slice o4 n4 k4)).setCell ⟨w.heap.size,7,none⟩ (.slice o5 n5 k5)).setCell ⟨w.heap.size,8,none⟩ (.slice o6 n6 k6)).setCell ⟨w.heap.size,0,none⟩ (.int .i64 z0)).setCell ⟨w.heap.size,1,none⟩ (.bool z1)).setCell ⟨w.heap.size,2,none⟩ (.int .i64 z2.op)).setCell ⟨w.heap.size,3,none⟩ (.int .i64 z2.a)).setCell ⟨w.heap.size,4,none⟩ (.int .i64 z2.b)).setCell ⟨w.heap.size,5,none⟩ (.int .i64 z2.n)).setCell ⟨w.heap.size,6,none⟩ (.slice o4 n4 k4)) 7 (.slice o5 n5 k5)) _ _ _ HL6s2s3s4s5s6s7s8s0s1s2s3s4s5s6.out)
    clear HL6s2s3s4s5s6s7s8s0s1s2s3s4s5s6
    have HT8:Hid (LI w0 w p s c en k q2 n 77 #[.int .i64 z0,.bool z1,.int .i64 z2.op,.int .i64 z2.a,.int .i64 z2.b,.int .i64 z2.n,.slice o4 n4 k4,.slice o5 n5 k5,.slice o6 n6 k6] ((((((((((((((((u2.setCell ⟨w.heap.size,2,none⟩ (.int .i64 z2.op)).setCell ⟨w.heap.size,3,none⟩ (.int .i64 z2.a)).setCell ⟨w.heap.size,4,none⟩ (.int .i64 z2.b)).setCell ⟨w.heap.size,5,none⟩ (.int .i64 z2.n)).setCell ⟨w.heap.size,6,none⟩ (.slice o4 n4 k4)).setCell ⟨w.heap.size,7,none⟩ (.slice o5 n5 k5)).setCell ⟨w.heap.size,8,none⟩ (.slice o6 n6 k6)).setCell ⟨w.heap.size,0,none⟩ (.int .i64 z0)).setCell ⟨w.heap.size,1,none⟩ (.bool z1)).setCell ⟨w.heap.size,2,none⟩ (.int .i64 z2.op)).setCell ⟨w.heap.size,3,none⟩ (.int .i64 z2.a)).setCell ⟨w.heap.size,4,none⟩ (.int .i64 z2.b)).setCell ⟨w.heap.size,5,none⟩ (.int .i64 z2.n)).setCell ⟨w.heap.size,6,none⟩ (.slice o4 n4 k4)).setCell ⟨w.heap.size,7,none⟩ (.slice o5 n5 k5)).setCell ⟨w.heap.size,8,none⟩ (.slice o6 n6 k6))):=hideR (HT7.out.set 8 _)
    have HL4s2s3s4s5s6s7s8s0s1s2s3s4s5s6s7s8:=hideR (IntsS.keep (keep_set w (((((((((((((((u2.setCell ⟨w.heap.size,2,none⟩ (.int .i64 z2.op)).setCell ⟨w.heap.size,3,none⟩ (.int .i64 z2.a)).setCell ⟨w.heap.size,4,none⟩ (.int .i64 z2.b)).setCell ⟨w.heap.size,5,none⟩ (.int .i64 z2.n)).setCell ⟨w.heap.size,6,none⟩ (.slice o4 n4 k4)).setCell ⟨w.heap.size,7,none⟩ (.slice o5 n5 k5)).setCell ⟨w.heap.size,8,none⟩ (.slice o6 n6 k6)).setCell ⟨w.heap.size,0,none⟩ (.int .i64 z0)).setCell ⟨w.heap.size,1,none⟩ (.bool z1)).setCell ⟨w.heap.size,2,none⟩ (.int .i64 z2.op)).setCell ⟨w.heap.size,3,none⟩ (.int .i64 z2.a)).setCell ⟨w.heap.size,4,none⟩ (.int .i64 z2.b)).setCell ⟨w.heap.size,5,none⟩ (.int .i64 z2.n)).setCell ⟨w.heap.size,6,none⟩ (.slice o4 n4 k4)).setCell ⟨w.heap.size,7,none⟩ (.slice o5 n5 k5)) 8 (.slice o6 n6 k6)) HL4s2s3s4s5s6s7s8s0s1s2s3s4s5s6s7.out)
    clear HL4s2s3s4s5s6s7s8s0s1s2s3s4s5s6s7
    have HL5s2s3s4s5s6s7s8s0s1s2s3s4s5s6s7s8:=hideR (AtS.keep (keep_set w (((((((((((((((u2.setCell ⟨w.heap.size,2,none⟩ (.int .i64 z2.op)).setCell ⟨w.heap.size,3,none⟩ (.int .i64 z2.a)).setCell ⟨w.heap.size,4,none⟩ (.int .i64 z2.b)).setCell ⟨w.heap.size,5,none⟩ (.int .i64 z2.n)).setCell ⟨w.heap.size,6,none⟩ (.slice o4 n4 k4)).setCell ⟨w.heap.size,7,none⟩ (.slice o5 n5 k5)).setCell ⟨w.heap.size,8,none⟩ (.slice o6 n6 k6)).setCell ⟨w.heap.size,0,none⟩ (.int .i64 z0)).setCell ⟨w.heap.size,1,none⟩ (.bool z1)).setCell ⟨w.heap.size,2,none⟩ (.int .i64 z2.op)).setCell ⟨w.heap.size,3,none⟩ (.int .i64 z2.a)).setCell ⟨w.heap.size,4,none⟩ (.int .i64 z2.b)).setCell ⟨w.heap.size,5,none⟩ (.int .i64 z2.n)).setCell ⟨w.heap.size,6,none⟩ (.slice o4 n4 k4)).setCell ⟨w.heap.size,7,none⟩ (.slice o5 n5 k5)) 8 (.slice o6 n6 k6)) _ _ _ HL5s2s3s4s5s6s7s8s0s1s2s3s4s5s6s7.out)
    clear HL5s2s3s4s5s6s7s8s0s1s2s3s4s5s6s7
    have HL6s2s3s4s5s6s7s8s0s1s2s3s4s5s6s7s8:=hideR (AtS.keep (keep_set w (((((((((((((((u2.setCell ⟨w.heap.size,2,none⟩ (.int .i64 z2.op)).setCell ⟨w.heap.size,3,none⟩ (.int .i64 z2.a)).setCell ⟨w.heap.size,4,none⟩ (.int .i64 z2.b)).setCell ⟨w.heap.size,5,none⟩ (.int .i64 z2.n)).setCell ⟨w.heap.size,6,none⟩ (.slice o4 n4 k4)).setCell ⟨w.heap.size,7,none⟩ (.slice o5 n5 k5)).setCell ⟨w.heap.size,8,none⟩ (.slice o6 n6 k6)).setCell ⟨w.heap.size,0,none⟩ (.int .i64 z0)).setCell ⟨w.heap.size,1,none⟩ (.bool z1)).setCell ⟨w.heap.size,2,none⟩ (.int .i64 z2.op)).setCell ⟨w.heap.size,3,none⟩ (.int .i64 z2.a)).setCell ⟨w.heap.size,4,none⟩ (.int .i64 z2.b)).setCell ⟨w.heap.size,5,none⟩ (.int .i64 z2.n)).setCell ⟨w.heap.size,6,none⟩ (.slice o4 n4 k4)).setCell ⟨w.heap.size,7,none⟩ (.slice o5 n5 k5)) 8 (.slice o6 n6 k6)) _ _ _ HL6s2s3s4s5s6s7s8s0s1s2s3s4s5s6s7.out)
    clear HL6s2s3s4s5s6s7s8s0s1s2s3s4s5s6s7
    have t0:=HT8.out.cell 0 _ rfl
    have t1:=HT8.out.cell 1 _ rfl
    have t2:=HT8.out.cell 2 _ rfl
    have t3:=HT8.out.cell 3 _ rfl
    have t4:=HT8.out.cell 4 _ rfl
    have t5:=HT8.out.cell 5 _ rfl
    have t6:=HT8.out.cell 6 _ rfl
    have t7:=HT8.out.cell 7 _ rfl
    have t8:=HT8.out.cell 8 _ rfl
    have hz:R=.ok (⟨z0,z1,z2⟩,q2):=by rw [HR.out];unfold rglo;simp only [bd_ok,bd_err,HX0.out,HX1.out,HX2.out,if_true,Bool.false_eq_true,if_false]
    rw [hz]
    exact bodyPost_ret (v:=.agg #[.int .i64 z0,.bool z1,.int .i64 z2.op,.int .i64 z2.a,.int .i64 z2.b,.int .i64 z2.n,.slice o4 n4 k4,.slice o5 n5 k5,.slice o6 n6 k6]) (by simp [results,Tryd.results32,go_sem,t0,t1,t2,t3,t4,t5,t6,t7,t8]) rfl ⟨⟨_,rfl,_,_,_,_,_,_,_,_,_,rfl,[_,_,_,_,_,_,_],rfl,_,_,_,rfl,(IntsS.keep (keep_out w _) HL4s2s3s4s5s6s7s8s0s1s2s3s4s5s6s7s8.out),(AtS.keep (keep_out w _) _ _ _ HL5s2s3s4s5s6s7s8s0s1s2s3s4s5s6s7s8.out),(AtS.keep (keep_out w _) _ _ _ HL6s2s3s4s5s6s7s8s0s1s2s3s4s5s6s7s8.out)⟩,HT8.out.rs,HT8.out.but⟩
set_option maxRecDepth 100000 in
set_option maxHeartbeats 4000000 in
theorem dElm (d:Nat):Calls Tryd.prog 36 #[.pointer (some ⟨p,0,none⟩)] w (Rds w0 p s c en k n (vElm (kElm d) w.heap.size) w (relm d s en i)):=by
 have HS:=hideR (LI.start h 85 #[.int .i64 0,.int .i64 0,.int .i64 0,.int .i64 0,.slice none 0 0,.slice none 0 0,.slice none 0 0,.slice none 0 0])
 clear h
 obtain ⟨R,hR⟩:∃R,R=relm d s en i:=⟨_,rfl⟩
 rw [<- hR]
 have HR:=hideR hR
 clear hR
 go_enter Tryd.func36,Tryd.ntmps36
 have hc0:=dMust w0 p s c en k i n (w.alloc (.cells #[.int .i64 0,.int .i64 0,.int .i64 0,.int .i64 0,.slice none 0 0,.slice none 0 0,.slice none 0 0,.slice none 0 0] 85)) HS.out.rs 0
 have HC0:=hideR hc0
 clear hc0
 go_wp2_with fail
 refine HC0.out.mono ?_
 intro e u0 hr
 cases hx0:must s en 0 i with
 | error z =>
  rw [hx0] at hr
  obtain ⟨rfl,hb⟩:=hr
  have HX0:=hideR hx0
  have hz:R=.error z:=by rw [HR.out];unfold relm;simp only [bd_ok,bd_err,HX0.out,if_true,Bool.false_eq_true,if_false]
  exact ⟨rfl,by rw [hz];exact ⟨rfl,hb⟩⟩
 | ok v =>
  obtain ⟨z0,q0⟩:=v
  rw [hx0] at hr
  obtain ⟨⟨v0,rfl,hv0⟩,h1,h2⟩:=hr
  have hv0:v0=.tuple #[]:=hv0
  subst hv0
  have HX0:=hideR hx0
  have HS0:=hideR (HS.out.call h1 h2)
  clear h1 h2 hx0 HC0 HS
  have hc1:=dConst w0 p s c en k q0 n u0 HS0.out.rs d
  have HC1:=hideR hc1
  clear hc1
  go_wp2_with fail
  refine HC1.out.mono ?_
  intro e u1 hr
  cases hx1:rconst d s en q0 with
  | error z =>
   rw [hx1] at hr
   obtain ⟨rfl,hb⟩:=hr
   have HX1:=hideR hx1
   have hz:R=.error z:=by rw [HR.out];unfold relm;simp only [bd_ok,bd_err,HX0.out,HX1.out,if_true,Bool.false_eq_true,if_false]
   exact ⟨rfl,by rw [hz];exact ⟨rfl,hb⟩⟩
  | ok v =>
   obtain ⟨z1,q1⟩:=v
   rw [hx1] at hr
   obtain ⟨⟨v1,rfl,hv1⟩,h1,h2⟩:=hr
   obtain ⟨o4,n4,k4,o5,n5,k5,o6,n6,k6,rfl,hI4,hA5,hA6⟩:=hv1
   have HL4:=hideR (hI4.keep (keep_in w u1 (by simpa using HS0.out.lt)))
   have HL5:=hideR (AtS.keep (keep_in w u1 (by simpa using HS0.out.lt)) _ _ _ hA5)
   have HL6:=hideR (AtS.keep (keep_in w u1 (by simpa using HS0.out.lt)) _ _ _ hA6)
   clear hI4 hA5 hA6
   have HX1:=hideR hx1
   have HS1:=hideR (HS0.out.call h1 h2)
   clear h1 h2 hx1 HC1 HS0
   have x0:=HS1.out.cell 0 _ rfl
   have y0:=HS1.out.frz 0
   have x1:=HS1.out.cell 1 _ rfl
   have y1:=HS1.out.frz 1
   have x2:=HS1.out.cell 2 _ rfl
   have y2:=HS1.out.frz 2
   have x3:=HS1.out.cell 3 _ rfl
   have y3:=HS1.out.frz 3
   have x4:=HS1.out.cell 4 _ rfl
   have y4:=HS1.out.frz 4
   have x5:=HS1.out.cell 5 _ rfl
   have y5:=HS1.out.frz 5
   have x6:=HS1.out.cell 6 _ rfl
   have y6:=HS1.out.frz 6
   have HS10:Hid (LI w0 w p s c en k q1 n 85 #[.int .i64 z1.op,.int .i64 0,.int .i64 0,.int .i64 0,.slice none 0 0,.slice none 0 0,.slice none 0 0,.slice none 0 0] (u1.setCell ⟨w.heap.size,0,none⟩ (.int .i64 z1.op))):=hideR (HS1.out.set 0 _)
   have HL4s0:=hideR (IntsS.keep (keep_set w u1 0 (.int .i64 z1.op)) HL4.out)
   clear HL4
   have HL5s0:=hideR (AtS.keep (keep_set w u1 0 (.int .i64 z1.op)) _ _ _ HL5.out)
   clear HL5
   have HL6s0:=hideR (AtS.keep (keep_set w u1 0 (.int .i64 z1.op)) _ _ _ HL6.out)
   clear HL6
   have HS101:Hid (LI w0 w p s c en k q1 n 85 #[.int .i64 z1.op,.int .i64 z1.a,.int .i64 0,.int .i64 0,.slice none 0 0,.slice none 0 0,.slice none 0 0,.slice none 0 0] ((u1.setCell ⟨w.heap.size,0,none⟩ (.int .i64 z1.op)).setCell ⟨w.heap.size,1,none⟩ (.int .i64 z1.a))):=hideR (HS10.out.set 1 _)
   have HL4s0s1:=hideR (IntsS.keep (keep_set w (u1.setCell ⟨w.heap.size,0,none⟩ (.int .i64 z1.op)) 1 (.int .i64 z1.a)) HL4s0.out)
   clear HL4s0
   have HL5s0s1:=hideR (AtS.keep (keep_set w (u1.setCell ⟨w.heap.size,0,none⟩ (.int .i64 z1.op)) 1 (.int .i64 z1.a)) _ _ _ HL5s0.out)
   clear HL5s0
   have HL6s0s1:=hideR (AtS.keep (keep_set w (u1.setCell ⟨w.heap.size,0,none⟩ (.int .i64 z1.op)) 1 (.int .i64 z1.a)) _ _ _ HL6s0.out)
   clear HL6s0
   have HS1012:Hid (LI w0 w p s c en k q1 n 85 #[.int .i64 z1.op,.int .i64 z1.a,.int .i64 z1.b,.int .i64 0,.slice none 0 0,.slice none 0 0,.slice none 0 0,.slice none 0 0] (((u1.setCell ⟨w.heap.size,0,none⟩ (.int .i64 z1.op)).setCell ⟨w.heap.size,1,none⟩ (.int .i64 z1.a)).setCell ⟨w.heap.size,2,none⟩ (.int .i64 z1.b))):=hideR (HS101.out.set 2 _)
   have HL4s0s1s2:=hideR (IntsS.keep (keep_set w ((u1.setCell ⟨w.heap.size,0,none⟩ (.int .i64 z1.op)).setCell ⟨w.heap.size,1,none⟩ (.int .i64 z1.a)) 2 (.int .i64 z1.b)) HL4s0s1.out)
   clear HL4s0s1
   have HL5s0s1s2:=hideR (AtS.keep (keep_set w ((u1.setCell ⟨w.heap.size,0,none⟩ (.int .i64 z1.op)).setCell ⟨w.heap.size,1,none⟩ (.int .i64 z1.a)) 2 (.int .i64 z1.b)) _ _ _ HL5s0s1.out)
   clear HL5s0s1
   have HL6s0s1s2:=hideR (AtS.keep (keep_set w ((u1.setCell ⟨w.heap.size,0,none⟩ (.int .i64 z1.op)).setCell ⟨w.heap.size,1,none⟩ (.int .i64 z1.a)) 2 (.int .i64 z1.b)) _ _ _ HL6s0s1.out)
   clear HL6s0s1
   have HS10123:Hid (LI w0 w p s c en k q1 n 85 #[.int .i64 z1.op,.int .i64 z1.a,.int .i64 z1.b,.int .i64 z1.n,.slice none 0 0,.slice none 0 0,.slice none 0 0,.slice none 0 0] ((((u1.setCell ⟨w.heap.size,0,none⟩ (.int .i64 z1.op)).setCell ⟨w.heap.size,1,none⟩ (.int .i64 z1.a)).setCell ⟨w.heap.size,2,none⟩ (.int .i64 z1.b)).setCell ⟨w.heap.size,3,none⟩ (.int .i64 z1.n))):=hideR (HS1012.out.set 3 _)
   have HL4s0s1s2s3:=hideR (IntsS.keep (keep_set w (((u1.setCell ⟨w.heap.size,0,none⟩ (.int .i64 z1.op)).setCell ⟨w.heap.size,1,none⟩ (.int .i64 z1.a)).setCell ⟨w.heap.size,2,none⟩ (.int .i64 z1.b)) 3 (.int .i64 z1.n)) HL4s0s1s2.out)
   clear HL4s0s1s2
   have HL5s0s1s2s3:=hideR (AtS.keep (keep_set w (((u1.setCell ⟨w.heap.size,0,none⟩ (.int .i64 z1.op)).setCell ⟨w.heap.size,1,none⟩ (.int .i64 z1.a)).setCell ⟨w.heap.size,2,none⟩ (.int .i64 z1.b)) 3 (.int .i64 z1.n)) _ _ _ HL5s0s1s2.out)
   clear HL5s0s1s2
   have HL6s0s1s2s3:=hideR (AtS.keep (keep_set w (((u1.setCell ⟨w.heap.size,0,none⟩ (.int .i64 z1.op)).setCell ⟨w.heap.size,1,none⟩ (.int .i64 z1.a)).setCell ⟨w.heap.size,2,none⟩ (.int .i64 z1.b)) 3 (.int .i64 z1.n)) _ _ _ HL6s0s1s2.out)
   clear HL6s0s1s2
   have HS101234:Hid (LI w0 w p s c en k q1 n 85 #[.int .i64 z1.op,.int .i64 z1.a,.int .i64 z1.b,.int .i64 z1.n,.slice o4 n4 k4,.slice none 0 0,.slice none 0 0,.slice none 0 0] (((((u1.setCell ⟨w.heap.size,0,none⟩ (.int .i64 z1.op)).setCell ⟨w.heap.size,1,none⟩ (.int .i64 z1.a)).setCell ⟨w.heap.size,2,none⟩ (.int .i64 z1.b)).setCell ⟨w.heap.size,3,none⟩ (.int .i64 z1.n)).setCell ⟨w.heap.size,4,none⟩ (.slice o4 n4 k4))):=hideR (HS10123.out.set 4 _)
   have HL4s0s1s2s3s4:=hideR (IntsS.keep (keep_set w ((((u1.setCell ⟨w.heap.size,0,none⟩ (.int .i64 z1.op)).setCell ⟨w.heap.size,1,none⟩ (.int .i64 z1.a)).setCell ⟨w.heap.size,2,none⟩ (.int .i64 z1.b)).setCell ⟨w.heap.size,3,none⟩ (.int .i64 z1.n)) 4 (.slice o4 n4 k4)) HL4s0s1s2s3.out)
   clear HL4s0s1s2s3
   have HL5s0s1s2s3s4:=hideR (AtS.keep (keep_set w ((((u1.setCell ⟨w.heap.size,0,none⟩ (.int .i64 z1.op)).setCell ⟨w.heap.size,1,none⟩ (.int .i64 z1.a)).setCell ⟨w.heap.size,2,none⟩ (.int .i64 z1.b)).setCell ⟨w.heap.size,3,none⟩ (.int .i64 z1.n)) 4 (.slice o4 n4 k4)) _ _ _ HL5s0s1s2s3.out)
   clear HL5s0s1s2s3
   have HL6s0s1s2s3s4:=hideR (AtS.keep (keep_set w ((((u1.setCell ⟨w.heap.size,0,none⟩ (.int .i64 z1.op)).setCell ⟨w.heap.size,1,none⟩ (.int .i64 z1.a)).setCell ⟨w.heap.size,2,none⟩ (.int .i64 z1.b)).setCell ⟨w.heap.size,3,none⟩ (.int .i64 z1.n)) 4 (.slice o4 n4 k4)) _ _ _ HL6s0s1s2s3.out)
   clear HL6s0s1s2s3
   have HS1012345:Hid (LI w0 w p s c en k q1 n 85 #[.int .i64 z1.op,.int .i64 z1.a,.int .i64 z1.b,.int .i64 z1.n,.slice o4 n4 k4,.slice o5 n5 k5,.slice none 0 0,.slice none 0 0] ((((((u1.setCell ⟨w.heap.size,0,none⟩ (.int .i64 z1.op)).setCell ⟨w.heap.size,1,none⟩ (.int .i64 z1.a)).setCell ⟨w.heap.size,2,none⟩ (.int .i64 z1.b)).setCell ⟨w.heap.size,3,none⟩ (.int .i64 z1.n)).setCell ⟨w.heap.size,4,none⟩ (.slice o4 n4 k4)).setCell ⟨w.heap.size,5,none⟩ (.slice o5 n5 k5))):=hideR (HS101234.out.set 5 _)
   have HL4s0s1s2s3s4s5:=hideR (IntsS.keep (keep_set w (((((u1.setCell ⟨w.heap.size,0,none⟩ (.int .i64 z1.op)).setCell ⟨w.heap.size,1,none⟩ (.int .i64 z1.a)).setCell ⟨w.heap.size,2,none⟩ (.int .i64 z1.b)).setCell ⟨w.heap.size,3,none⟩ (.int .i64 z1.n)).setCell ⟨w.heap.size,4,none⟩ (.slice o4 n4 k4)) 5 (.slice o5 n5 k5)) HL4s0s1s2s3s4.out)
   clear HL4s0s1s2s3s4
   have HL5s0s1s2s3s4s5:=hideR (AtS.keep (keep_set w (((((u1.setCell ⟨w.heap.size,0,none⟩ (.int .i64 z1.op)).setCell ⟨w.heap.size,1,none⟩ (.int .i64 z1.a)).setCell ⟨w.heap.size,2,none⟩ (.int .i64 z1.b)).setCell ⟨w.heap.size,3,none⟩ (.int .i64 z1.n)).setCell ⟨w.heap.size,4,none⟩ (.slice o4 n4 k4)) 5 (.slice o5 n5 k5)) _ _ _ HL5s0s1s2s3s4.out)
   clear HL5s0s1s2s3s4
   have HL6s0s1s2s3s4s5:=hideR (AtS.keep (keep_set w (((((u1.setCell ⟨w.heap.size,0,none⟩ (.int .i64 z1.op)).setCell ⟨w.heap.size,1,none⟩ (.int .i64 z1.a)).setCell ⟨w.heap.size,2,none⟩ (.int .i64 z1.b)).setCell ⟨w.heap.size,3,none⟩ (.int .i64 z1.n)).setCell ⟨w.heap.size,4,none⟩ (.slice o4 n4 k4)) 5 (.slice o5 n5 k5)) _ _ _ HL6s0s1s2s3s4.out)
   clear HL6s0s1s2s3s4
   have HS10123456:Hid (LI w0 w p s c en k q1 n 85 #[.int .i64 z1.op,.int .i64 z1.a,.int .i64 z1.b,.int .i64 z1.n,.slice o4 n4 k4,.slice o5 n5 k5,.slice o6 n6 k6,.slice none 0 0] (((((((u1.setCell ⟨w.heap.size,0,none⟩ (.int .i64 z1.op)).setCell ⟨w.heap.size,1,none⟩ (.int .i64 z1.a)).setCell ⟨w.heap.size,2,none⟩ (.int .i64 z1.b)).setCell ⟨w.heap.size,3,none⟩ (.int .i64 z1.n)).setCell ⟨w.heap.size,4,none⟩ (.slice o4 n4 k4)).setCell ⟨w.heap.size,5,none⟩ (.slice o5 n5 k5)).setCell ⟨w.heap.size,6,none⟩ (.slice o6 n6 k6))):=hideR (HS1012345.out.set 6 _)
   have HL4s0s1s2s3s4s5s6:=hideR (IntsS.keep (keep_set w ((((((u1.setCell ⟨w.heap.size,0,none⟩ (.int .i64 z1.op)).setCell ⟨w.heap.size,1,none⟩ (.int .i64 z1.a)).setCell ⟨w.heap.size,2,none⟩ (.int .i64 z1.b)).setCell ⟨w.heap.size,3,none⟩ (.int .i64 z1.n)).setCell ⟨w.heap.size,4,none⟩ (.slice o4 n4 k4)).setCell ⟨w.heap.size,5,none⟩ (.slice o5 n5 k5)) 6 (.slice o6 n6 k6)) HL4s0s1s2s3s4s5.out)
   clear HL4s0s1s2s3s4s5
   have HL5s0s1s2s3s4s5s6:=hideR (AtS.keep (keep_set w ((((((u1.setCell ⟨w.heap.size,0,none⟩ (.int .i64 z1.op)).setCell ⟨w.heap.size,1,none⟩ (.int .i64 z1.a)).setCell ⟨w.heap.size,2,none⟩ (.int .i64 z1.b)).setCell ⟨w.heap.size,3,none⟩ (.int .i64 z1.n)).setCell ⟨w.heap.size,4,none⟩ (.slice o4 n4 k4)).setCell ⟨w.heap.size,5,none⟩ (.slice o5 n5 k5)) 6 (.slice o6 n6 k6)) _ _ _ HL5s0s1s2s3s4s5.out)
   clear HL5s0s1s2s3s4s5
   have HL6s0s1s2s3s4s5s6:=hideR (AtS.keep (keep_set w ((((((u1.setCell ⟨w.heap.size,0,none⟩ (.int .i64 z1.op)).setCell ⟨w.heap.size,1,none⟩ (.int .i64 z1.a)).setCell ⟨w.heap.size,2,none⟩ (.int .i64 z1.b)).setCell ⟨w.heap.size,3,none⟩ (.int .i64 z1.n)).setCell ⟨w.heap.size,4,none⟩ (.slice o4 n4 k4)).setCell ⟨w.heap.size,5,none⟩ (.slice o5 n5 k5)) 6 (.slice o6 n6 k6)) _ _ _ HL6s0s1s2s3s4s5.out)
   clear HL6s0s1s2s3s4s5
   have hc2:=dInts w0 p s c en k q1 n (((((((u1.setCell ⟨w.heap.size,0,none⟩ (.int .i64 z1.op)).setCell ⟨w.heap.size,1,none⟩ (.int .i64 z1.a)).setCell ⟨w.heap.size,2,none⟩ (.int .i64 z1.b)).setCell ⟨w.heap.size,3,none⟩ (.int .i64 z1.n)).setCell ⟨w.heap.size,4,none⟩ (.slice o4 n4 k4)).setCell ⟨w.heap.size,5,none⟩ (.slice o5 n5 k5)).setCell ⟨w.heap.size,6,none⟩ (.slice o6 n6 k6)) HS10123456.out.rs
   have HC2:=hideR hc2
   clear hc2
   go_wp2_with fail
   refine HC2.out.mono ?_
   intro e u2 hr
   cases hx2:rl s en q1 with
   | error z =>
    rw [hx2] at hr
    obtain ⟨rfl,hb⟩:=hr
    have HX2:=hideR hx2
    have hz:R=.error z:=by rw [HR.out];unfold relm;simp only [bd_ok,bd_err,HX0.out,HX1.out,HX2.out,if_true,Bool.false_eq_true,if_false]
    exact ⟨rfl,by rw [hz];exact ⟨rfl,hb⟩⟩
   | ok v =>
    obtain ⟨z2,q2⟩:=v
    rw [hx2] at hr
    obtain ⟨⟨v2,rfl,hv2⟩,h1,h2⟩:=hr
    have HL4s0s1s2s3s4s5s6k2:=hideR (IntsS.keep (HS10123456.out.kept h2) HL4s0s1s2s3s4s5s6.out)
    clear HL4s0s1s2s3s4s5s6
    have HL5s0s1s2s3s4s5s6k2:=hideR (AtS.keep (HS10123456.out.kept h2) _ _ _ HL5s0s1s2s3s4s5s6.out)
    clear HL5s0s1s2s3s4s5s6
    have HL6s0s1s2s3s4s5s6k2:=hideR (AtS.keep (HS10123456.out.kept h2) _ _ _ HL6s0s1s2s3s4s5s6.out)
    clear HL6s0s1s2s3s4s5s6
    have hv2:IntsS u2 (Since (((((((u1.setCell ⟨w.heap.size,0,none⟩ (.int .i64 z1.op)).setCell ⟨w.heap.size,1,none⟩ (.int .i64 z1.a)).setCell ⟨w.heap.size,2,none⟩ (.int .i64 z1.b)).setCell ⟨w.heap.size,3,none⟩ (.int .i64 z1.n)).setCell ⟨w.heap.size,4,none⟩ (.slice o4 n4 k4)).setCell ⟨w.heap.size,5,none⟩ (.slice o5 n5 k5)).setCell ⟨w.heap.size,6,none⟩ (.slice o6 n6 k6)).heap.size u2 none) v2 z2:=hv2
    have HL2:=hideR (hv2.keep (keep_in w u2 (by simpa using HS10123456.out.lt)))
    obtain ⟨o2,k2,rfl⟩:=Row.len hv2
    clear hv2
    have HX2:=hideR hx2
    have HS2:=hideR (HS10123456.out.call h1 h2)
    clear h1 h2 hx2 HC2 HS10123456
    have x7:=HS2.out.cell 7 _ rfl
    have y7:=HS2.out.frz 7
    have HS27:Hid (LI w0 w p s c en k q2 n 85 #[.int .i64 z1.op,.int .i64 z1.a,.int .i64 z1.b,.int .i64 z1.n,.slice o4 n4 k4,.slice o5 n5 k5,.slice o6 n6 k6,.slice o2 z2.length k2] (u2.setCell ⟨w.heap.size,7,none⟩ (.slice o2 z2.length k2))):=hideR (HS2.out.set 7 _)
    have HL4s0s1s2s3s4s5s6k2s7:=hideR (IntsS.keep (keep_set w u2 7 (.slice o2 z2.length k2)) HL4s0s1s2s3s4s5s6k2.out)
    clear HL4s0s1s2s3s4s5s6k2
    have HL5s0s1s2s3s4s5s6k2s7:=hideR (AtS.keep (keep_set w u2 7 (.slice o2 z2.length k2)) _ _ _ HL5s0s1s2s3s4s5s6k2.out)
    clear HL5s0s1s2s3s4s5s6k2
    have HL6s0s1s2s3s4s5s6k2s7:=hideR (AtS.keep (keep_set w u2 7 (.slice o2 z2.length k2)) _ _ _ HL6s0s1s2s3s4s5s6k2.out)
    clear HL6s0s1s2s3s4s5s6k2
    have HL2s7:=hideR (IntsS.keep (keep_set w u2 7 (.slice o2 z2.length k2)) HL2.out)
    clear HL2
    have x0:=HS27.out.cell 0 _ rfl
    have y0:=HS27.out.frz 0
    have x1:=HS27.out.cell 1 _ rfl
    have y1:=HS27.out.frz 1
    have x2:=HS27.out.cell 2 _ rfl
    have y2:=HS27.out.frz 2
    have x3:=HS27.out.cell 3 _ rfl
    have y3:=HS27.out.frz 3
    have x4:=HS27.out.cell 4 _ rfl
    have y4:=HS27.out.frz 4
    have x5:=HS27.out.cell 5 _ rfl
    have y5:=HS27.out.frz 5
    have x6:=HS27.out.cell 6 _ rfl
    have y6:=HS27.out.frz 6
    have x7:=HS27.out.cell 7 _ rfl
    have y7:=HS27.out.frz 7
    go_wp2
    have HT0:Hid (LI w0 w p s c en k q2 n 85 #[.int .i64 z1.op,.int .i64 z1.a,.int .i64 z1.b,.int .i64 z1.n,.slice o4 n4 k4,.slice o5 n5 k5,.slice o6 n6 k6,.slice o2 z2.length k2] ((u2.setCell ⟨w.heap.size,7,none⟩ (.slice o2 z2.length k2)).setCell ⟨w.heap.size,0,none⟩ (.int .i64 z1.op))):=hideR (HS27.out.set 0 _)
    have HL4s0s1s2s3s4s5s6k2s7s0:=hideR (IntsS.keep (keep_set w (u2.setCell ⟨w.heap.size,7,none⟩ (.slice o2 z2.length k2)) 0 (.int .i64 z1.op)) HL4s0s1s2s3s4s5s6k2s7.out)
    clear HL4s0s1s2s3s4s5s6k2s7
    have HL5s0s1s2s3s4s5s6k2s7s0:=hideR (AtS.keep (keep_set w (u2.setCell ⟨w.heap.size,7,none⟩ (.slice o2 z2.length k2)) 0 (.int .i64 z1.op)) _ _ _ HL5s0s1s2s3s4s5s6k2s7.out)
    clear HL5s0s1s2s3s4s5s6k2s7
    have HL6s0s1s2s3s4s5s6k2s7s0:=hideR (AtS.keep (keep_set w (u2.setCell ⟨w.heap.size,7,none⟩ (.slice o2 z2.length k2)) 0 (.int .i64 z1.op)) _ _ _ HL6s0s1s2s3s4s5s6k2s7.out)
    clear HL6s0s1s2s3s4s5s6k2s7
    have HL2s7s0:=hideR (IntsS.keep (keep_set w (u2.setCell ⟨w.heap.size,7,none⟩ (.slice o2 z2.length k2)) 0 (.int .i64 z1.op)) HL2s7.out)
    clear HL2s7
    have HT1:Hid (LI w0 w p s c en k q2 n 85 #[.int .i64 z1.op,.int .i64 z1.a,.int .i64 z1.b,.int .i64 z1.n,.slice o4 n4 k4,.slice o5 n5 k5,.slice o6 n6 k6,.slice o2 z2.length k2] (((u2.setCell ⟨w.heap.size,7,none⟩ (.slice o2 z2.length k2)).setCell ⟨w.heap.size,0,none⟩ (.int .i64 z1.op)).setCell ⟨w.heap.size,1,none⟩ (.int .i64 z1.a))):=hideR (HT0.out.set 1 _)
    have HL4s0s1s2s3s4s5s6k2s7s0s1:=hideR (IntsS.keep (keep_set w ((u2.setCell ⟨w.heap.size,7,none⟩ (.slice o2 z2.length k2)).setCell ⟨w.heap.size,0,none⟩ (.int .i64 z1.op)) 1 (.int .i64 z1.a)) HL4s0s1s2s3s4s5s6k2s7s0.out)
    clear HL4s0s1s2s3s4s5s6k2s7s0
    have HL5s0s1s2s3s4s5s6k2s7s0s1:=hideR (AtS.keep (keep_set w ((u2.setCell ⟨w.heap.size,7,none⟩ (.slice o2 z2.length k2)).setCell ⟨w.heap.size,0,none⟩ (.int .i64 z1.op)) 1 (.int .i64 z1.a)) _ _ _ HL5s0s1s2s3s4s5s6k2s7s0.out)
    clear HL5s0s1s2s3s4s5s6k2s7s0
    have HL6s0s1s2s3s4s5s6k2s7s0s1:=hideR (AtS.keep (keep_set w ((u2.setCell ⟨w.heap.size,7,none⟩ (.slice o2 z2.length k2)).setCell ⟨w.heap.size,0,none⟩ (.int .i64 z1.op)) 1 (.int .i64 z1.a)) _ _ _ HL6s0s1s2s3s4s5s6k2s7s0.out)
    clear HL6s0s1s2s3s4s5s6k2s7s0
    have HL2s7s0s1:=hideR (IntsS.keep (keep_set w ((u2.setCell ⟨w.heap.size,7,none⟩ (.slice o2 z2.length k2)).setCell ⟨w.heap.size,0,none⟩ (.int .i64 z1.op)) 1 (.int .i64 z1.a)) HL2s7s0.out)
    clear HL2s7s0
    have HT2:Hid (LI w0 w p s c en k q2 n 85 #[.int .i64 z1.op,.int .i64 z1.a,.int .i64 z1.b,.int .i64 z1.n,.slice o4 n4 k4,.slice o5 n5 k5,.slice o6 n6 k6,.slice o2 z2.length k2] ((((u2.setCell ⟨w.heap.size,7,none⟩ (.slice o2 z2.length k2)).setCell ⟨w.heap.size,0,none⟩ (.int .i64 z1.op)).setCell ⟨w.heap.size,1,none⟩ (.int .i64 z1.a)).setCell ⟨w.heap.size,2,none⟩ (.int .i64 z1.b))):=hideR (HT1.out.set 2 _)
    have HL4s0s1s2s3s4s5s6k2s7s0s1s2:=hideR (IntsS.keep (keep_set w (((u2.setCell ⟨w.heap.size,7,none⟩ (.slice o2 z2.length k2)).setCell ⟨w.heap.size,0,none⟩ (.int .i64 z1.op)).setCell ⟨w.heap.size,1,none⟩ (.int .i64 z1.a)) 2 (.int .i64 z1.b)) HL4s0s1s2s3s4s5s6k2s7s0s1.out)
    clear HL4s0s1s2s3s4s5s6k2s7s0s1
    have HL5s0s1s2s3s4s5s6k2s7s0s1s2:=hideR (AtS.keep (keep_set w (((u2.setCell ⟨w.heap.size,7,none⟩ (.slice o2 z2.length k2)).setCell ⟨w.heap.size,0,none⟩ (.int .i64 z1.op)).setCell ⟨w.heap.size,1,none⟩ (.int .i64 z1.a)) 2 (.int .i64 z1.b)) _ _ _ HL5s0s1s2s3s4s5s6k2s7s0s1.out)
    clear HL5s0s1s2s3s4s5s6k2s7s0s1
    have HL6s0s1s2s3s4s5s6k2s7s0s1s2:=hideR (AtS.keep (keep_set w (((u2.setCell ⟨w.heap.size,7,none⟩ (.slice o2 z2.length k2)).setCell ⟨w.heap.size,0,none⟩ (.int .i64 z1.op)).setCell ⟨w.heap.size,1,none⟩ (.int .i64 z1.a)) 2 (.int .i64 z1.b)) _ _ _ HL6s0s1s2s3s4s5s6k2s7s0s1.out)
    clear HL6s0s1s2s3s4s5s6k2s7s0s1
    have HL2s7s0s1s2:=hideR (IntsS.keep (keep_set w (((u2.setCell ⟨w.heap.size,7,none⟩ (.slice o2 z2.length k2)).setCell ⟨w.heap.size,0,none⟩ (.int .i64 z1.op)).setCell ⟨w.heap.size,1,none⟩ (.int .i64 z1.a)) 2 (.int .i64 z1.b)) HL2s7s0s1.out)
    clear HL2s7s0s1
    have HT3:Hid (LI w0 w p s c en k q2 n 85 #[.int .i64 z1.op,.int .i64 z1.a,.int .i64 z1.b,.int .i64 z1.n,.slice o4 n4 k4,.slice o5 n5 k5,.slice o6 n6 k6,.slice o2 z2.length k2] (((((u2.setCell ⟨w.heap.size,7,none⟩ (.slice o2 z2.length k2)).setCell ⟨w.heap.size,0,none⟩ (.int .i64 z1.op)).setCell ⟨w.heap.size,1,none⟩ (.int .i64 z1.a)).setCell ⟨w.heap.size,2,none⟩ (.int .i64 z1.b)).setCell ⟨w.heap.size,3,none⟩ (.int .i64 z1.n))):=hideR (HT2.out.set 3 _)
    have HL4s0s1s2s3s4s5s6k2s7s0s1s2s3:=hideR (IntsS.keep (keep_set w ((((u2.setCell ⟨w.heap.size,7,none⟩ (.slice o2 z2.length k2)).setCell ⟨w.heap.size,0,none⟩ (.int .i64 z1.op)).setCell ⟨w.heap.size,1,none⟩ (.int .i64 z1.a)).setCell ⟨w.heap.size,2,none⟩ (.int .i64 z1.b)) 3 (.int .i64 z1.n)) HL4s0s1s2s3s4s5s6k2s7s0s1s2.out)
    clear HL4s0s1s2s3s4s5s6k2s7s0s1s2
    have HL5s0s1s2s3s4s5s6k2s7s0s1s2s3:=hideR (AtS.keep (keep_set w ((((u2.setCell ⟨w.heap.size,7,none⟩ (.slice o2 z2.length k2)).setCell ⟨w.heap.size,0,none⟩ (.int .i64 z1.op)).setCell ⟨w.heap.size,1,none⟩ (.int .i64 z1.a)).setCell ⟨w.heap.size,2,none⟩ (.int .i64 z1.b)) 3 (.int .i64 z1.n)) _ _ _ HL5s0s1s2s3s4s5s6k2s7s0s1s2.out)
    clear HL5s0s1s2s3s4s5s6k2s7s0s1s2
    have HL6s0s1s2s3s4s5s6k2s7s0s1s2s3:=hideR (AtS.keep (keep_set w ((((u2.setCell ⟨w.heap.size,7,none⟩ (.slice o2 z2.length k2)).setCell ⟨w.heap.size,0,none⟩ (.int .i64 z1.op)).setCell ⟨w.heap.size,1,none⟩ (.int .i64 z1.a)).setCell ⟨w.heap.size,2,none⟩ (.int .i64 z1.b)) 3 (.int .i64 z1.n)) _ _ _ HL6s0s1s2s3s4s5s6k2s7s0s1s2.out)
    clear HL6s0s1s2s3s4s5s6k2s7s0s1s2
    have HL2s7s0s1s2s3:=hideR (IntsS.keep (keep_set w ((((u2.setCell ⟨w.heap.size,7,none⟩ (.slice o2 z2.length k2)).setCell ⟨w.heap.size,0,none⟩ (.int .i64 z1.op)).setCell ⟨w.heap.size,1,none⟩ (.int .i64 z1.a)).setCell ⟨w.heap.size,2,none⟩ (.int .i64 z1.b)) 3 (.int .i64 z1.n)) HL2s7s0s1s2.out)
    clear HL2s7s0s1s2
    have HT4:Hid (LI w0 w p s c en k q2 n 85 #[.int .i64 z1.op,.int .i64 z1.a,.int .i64 z1.b,.int .i64 z1.n,.slice o4 n4 k4,.slice o5 n5 k5,.slice o6 n6 k6,.slice o2 z2.length k2] ((((((u2.setCell ⟨w.heap.size,7,none⟩ (.slice o2 z2.length k2)).setCell ⟨w.heap.size,0,none⟩ (.int .i64 z1.op)).setCell ⟨w.heap.size,1,none⟩ (.int .i64 z1.a)).setCell ⟨w.heap.size,2,none⟩ (.int .i64 z1.b)).setCell ⟨w.heap.size,3,none⟩ (.int .i64 z1.n)).setCell ⟨w.heap.size,4,none⟩ (.slice o4 n4 k4))):=hideR (HT3.out.set 4 _)
    have HL4s0s1s2s3s4s5s6k2s7s0s1s2s3s4:=hideR (IntsS.keep (keep_set w (((((u2.setCell ⟨w.heap.size,7,none⟩ (.slice o2 z2.length k2)).setCell ⟨w.heap.size,0,none⟩ (.int .i64 z1.op)).setCell ⟨w.heap.size,1,none⟩ (.int .i64 z1.a)).setCell ⟨w.heap.size,2,none⟩ (.int .i64 z1.b)).setCell ⟨w.heap.size,3,none⟩ (.int .i64 z1.n)) 4 (.slice o4 n4 k4)) HL4s0s1s2s3s4s5s6k2s7s0s1s2s3.out)
    clear HL4s0s1s2s3s4s5s6k2s7s0s1s2s3
    have HL5s0s1s2s3s4s5s6k2s7s0s1s2s3s4:=hideR (AtS.keep (keep_set w (((((u2.setCell ⟨w.heap.size,7,none⟩ (.slice o2 z2.length k2)).setCell ⟨w.heap.size,0,none⟩ (.int .i64 z1.op)).setCell ⟨w.heap.size,1,none⟩ (.int .i64 z1.a)).setCell ⟨w.heap.size,2,none⟩ (.int .i64 z1.b)).setCell ⟨w.heap.size,3,none⟩ (.int .i64 z1.n)) 4 (.slice o4 n4 k4)) _ _ _ HL5s0s1s2s3s4s5s6k2s7s0s1s2s3.out)
    clear HL5s0s1s2s3s4s5s6k2s7s0s1s2s3
    have HL6s0s1s2s3s4s5s6k2s7s0s1s2s3s4:=hideR (AtS.keep (keep_set w (((((u2.setCell ⟨w.heap.size,7,none⟩ (.slice o2 z2.length k2)).setCell ⟨w.heap.size,0,none⟩ (.int .i64 z1.op)).setCell ⟨w.heap.size,1,none⟩ (.int .i64 z1.a)).setCell ⟨w.heap.size,2,none⟩ (.int .i64 z1.b)).setCell ⟨w.heap.size,3,none⟩ (.int .i64 z1.n)) 4 (.slice o4 n4 k4)) _ _ _ HL6s0s1s2s3s4s5s6k2s7s0s1s2s3.out)
    clear HL6s0s1s2s3s4s5s6k2s7s0s1s2s3
    have HL2s7s0s1s2s3s4:=hideR (IntsS.keep (keep_set w (((((u2.setCell ⟨w.heap.size,7,none⟩ (.slice o2 z2.length k2)).setCell ⟨w.heap.size,0,none⟩ (.int .i64 z1.op)).setCell ⟨w.heap.size,1,none⟩ (.int .i64 z1.a)).setCell ⟨w.heap.size,2,none⟩ (.int .i64 z1.b)).setCell ⟨w.heap.size,3,none⟩ (.int .i64 z1.n)) 4 (.slice o4 n4 k4)) HL2s7s0s1s2s3.out)
    clear HL2s7s0s1s2s3
    have HT5:Hid (LI w0 w p s c en k q2 n 85 #[.int .i64 z1.op,.int .i64 z1.a,.int .i64 z1.b,.int .i64 z1.n,.slice o4 n4 k4,.slice o5 n5 k5,.slice o6 n6 k6,.slice o2 z2.length k2] (((((((u2.setCell ⟨w.heap.size,7,none⟩ (.slice o2 z2.length k2)).setCell ⟨w.heap.size,0,none⟩ (.int .i64 z1.op)).setCell ⟨w.heap.size,1,none⟩ (.int .i64 z1.a)).setCell ⟨w.heap.size,2,none⟩ (.int .i64 z1.b)).setCell ⟨w.heap.size,3,none⟩ (.int .i64 z1.n)).setCell ⟨w.heap.size,4,none⟩ (.slice o4 n4 k4)).setCell ⟨w.heap.size,5,none⟩ (.slice o5 n5 k5))):=hideR (HT4.out.set 5 _)
    have HL4s0s1s2s3s4s5s6k2s7s0s1s2s3s4s5:=hideR (IntsS.keep (keep_set w ((((((u2.setCell ⟨w.heap.size,7,none⟩ (.slice o2 z2.length k2)).setCell ⟨w.heap.size,0,none⟩ (.int .i64 z1.op)).setCell ⟨w.heap.size,1,none⟩ (.int .i64 z1.a)).setCell ⟨w.heap.size,2,none⟩ (.int .i64 z1.b)).setCell ⟨w.heap.size,3,none⟩ (.int .i64 z1.n)).setCell ⟨w.heap.size,4,none⟩ (.slice o4 n4 k4)) 5 (.slice o5 n5 k5)) HL4s0s1s2s3s4s5s6k2s7s0s1s2s3s4.out)
    clear HL4s0s1s2s3s4s5s6k2s7s0s1s2s3s4
    have HL5s0s1s2s3s4s5s6k2s7s0s1s2s3s4s5:=hideR (AtS.keep (keep_set w ((((((u2.setCell ⟨w.heap.size,7,none⟩ (.slice o2 z2.length k2)).setCell ⟨w.heap.size,0,none⟩ (.int .i64 z1.op)).setCell ⟨w.heap.size,1,none⟩ (.int .i64 z1.a)).setCell ⟨w.heap.size,2,none⟩ (.int .i64 z1.b)).setCell ⟨w.heap.size,3,none⟩ (.int .i64 z1.n)).setCell ⟨w.heap.size,4,none⟩ (.slice o4 n4 k4)) 5 (.slice o5 n5 k5)) _ _ _ HL5s0s1s2s3s4s5s6k2s7s0s1s2s3s4.out)
    clear HL5s0s1s2s3s4s5s6k2s7s0s1s2s3s4
    have HL6s0s1s2s3s4s5s6k2s7s0s1s2s3s4s5:=hideR (AtS.keep (keep_set w ((((((u2.setCell ⟨w.heap.size,7,none⟩ (.slice o2 z2.length k2)).setCell ⟨w.heap.size,0,none⟩ (.int .i64 z1.op)).setCell ⟨w.heap.size,1,none⟩ (.int .i64 z1.a)).setCell ⟨w.heap.size,2,none⟩ (.int .i64 z1.b)).setCell ⟨w.heap.size,3,none⟩ (.int .i64 z1.n)).setCell ⟨w.heap.size,4,none⟩ (.slice o4 n4 k4)) 5 (.slice o5 n5 k5)) _ _ _ HL6s0s1s2s3s4s5s6k2s7s0s1s2s3s4.out)
    clear HL6s0s1s2s3s4s5s6k2s7s0s1s2s3s4
    have HL2s7s0s1s2s3s4s5:=hideR (IntsS.keep (keep_set w ((((((u2.setCell ⟨w.heap.size,7,none⟩ (.slice o2 z2.length k2)).setCell ⟨w.heap.size,0,none⟩ (.int .i64 z1.op)).setCell ⟨w.heap.size,1,none⟩ (.int .i64 z1.a)).setCell ⟨w.heap.size,2,none⟩ (.int .i64 z1.b)).setCell ⟨w.heap.size,3,none⟩ (.int .i64 z1.n)).setCell ⟨w.heap.size,4,none⟩ (.slice o4 n4 k4)) 5 (.slice o5 n5 k5)) HL2s7s0s1s2s3s4.out)
    clear HL2s7s0s1s2s3s4
    have HT6:Hid (LI w0 w p s c en k q2 n 85 #[.int .i64 z1.op,.int .i64 z1.a,.int .i64 z1.b,.int .i64 z1.n,.slice o4 n4 k4,.slice o5 n5 k5,.slice o6 n6 k6,.slice o2 z2.length k2] ((((((((u2.setCell ⟨w.heap.size,7,none⟩ (.slice o2 z2.length k2)).setCell ⟨w.heap.size,0,none⟩ (.int .i64 z1.op)).setCell ⟨w.heap.size,1,none⟩ (.int .i64 z1.a)).setCell ⟨w.heap.size,2,none⟩ (.int .i64 z1.b)).setCell ⟨w.heap.size,3,none⟩ (.int .i64 z1.n)).setCell ⟨w.heap.size,4,none⟩ (.slice o4 n4 k4)).setCell ⟨w.heap.size,5,none⟩ (.slice o5 n5 k5)).setCell ⟨w.heap.size,6,none⟩ (.slice o6 n6 k6))):=hideR (HT5.out.set 6 _)
    have HL4s0s1s2s3s4s5s6k2s7s0s1s2s3s4s5s6:=hideR (IntsS.keep (keep_set w (((((((u2.setCell ⟨w.heap.size,7,none⟩ (.slice o2 z2.length k2)).setCell ⟨w.heap.size,0,none⟩ (.int .i64 z1.op)).setCell ⟨w.heap.size,1,none⟩ (.int .i64 z1.a)).setCell ⟨w.heap.size,2,none⟩ (.int .i64 z1.b)).setCell ⟨w.heap.size,3,none⟩ (.int .i64 z1.n)).setCell ⟨w.heap.size,4,none⟩ (.slice o4 n4 k4)).setCell ⟨w.heap.size,5,none⟩ (.slice o5 n5 k5)) 6 (.slice o6 n6 k6)) HL4s0s1s2s3s4s5s6k2s7s0s1s2s3s4s5.out)
    clear HL4s0s1s2s3s4s5s6k2s7s0s1s2s3s4s5
    have HL5s0s1s2s3s4s5s6k2s7s0s1s2s3s4s5s6:=hideR (AtS.keep (keep_set w (((((((u2.setCell ⟨w.heap.size,7,none⟩ (.slice o2 z2.length k2)).setCell ⟨w.heap.size,0,none⟩ (.int .i64 z1.op)).setCell ⟨w.heap.size,1,none⟩ (.int .i64 z1.a)).setCell ⟨w.heap.size,2,none⟩ (.int .i64 z1.b)).setCell ⟨w.heap.size,3,none⟩ (.int .i64 z1.n)).setCell ⟨w.heap.size,4,none⟩ (.slice o4 n4 k4)).setCell ⟨w.heap.size,5,none⟩ (.slice o5 n5 k5)) 6 (.slice o6 n6 k6)) _ _ _ HL5s0s1s2s3s4s5s6k2s7s0s1s2s3s4s5.out)
    clear HL5s0s1s2s3s4s5s6k2s7s0s1s2s3s4s5
    have HL6s0s1s2s3s4s5s6k2s7s0s1s2s3s4s5s6:=hideR (AtS.keep (keep_set w (((((((u2.setCell ⟨w.heap.size,7,none⟩ (.slice o2 z2.length k2)).setCell ⟨w.heap.size,0,none⟩ (.int .i64 z1.op)).setCell ⟨w.heap.size,1,none⟩ (.int .i64 z1.a)).setCell ⟨w.heap.size,2,none⟩ (.int .i64 z1.b)).setCell ⟨w.heap.size,3,none⟩ (.int .i64 z1.n)).setCell ⟨w.heap.size,4,none⟩ (.slice o4 n4 k4)).setCell ⟨w.heap.size,5,none⟩ (.slice o5 n5 k5)) 6 (.slice o6 n6 k6)) _ _ _ HL6s0s1s2s3s4s5s6k2s7s0s1s2s3s4s5.out)
    clear HL6s0s1s2s3s4s5s6k2s7s0s1s2s3s4s5
    have HL2s7s0s1s2s3s4s5s6:=hideR (IntsS.keep (keep_set w (((((((u2.setCell ⟨w.heap.size,7,none⟩ (.slice o2 z2.length k2)).setCell ⟨w.heap.size,0,none⟩ (.int .i64 z1.op)).setCell ⟨w.heap.size,1,none⟩ (.int .i64 z1.a)).setCell ⟨w.heap.size,2,none⟩ (.int .i64 z1.b)).setCell ⟨w.heap.size,3,none⟩ (.int .i64 z1.n)).setCell ⟨w.heap.size,4,none⟩ (.slice o4 n4 k4)).setCell ⟨w.heap.size,5,none⟩ (.slice o5 n5 k5)) 6 (.slice o6 n6 k6)) HL2s7s0s1s2s3s4s5.out)
    clear HL2s7s0s1s2s3s4s5
    have HT7:Hid (LI w0 w p s c en k q2 n 85 #[.int .i64 z1.op,.int .i64 z1.a,.int .i64 z1.b,.int .i64 z1.n,.slice o4 n4 k4,.slice o5 n5 k5,.slice o6 n6 k6,.slice o2 z2.length k2] (((((((((u2.setCell ⟨w.heap.size,7,none⟩ (.slice o2 z2.length k2)).setCell ⟨w.heap.size,0,none⟩ (.int .i64 z1.op)).setCell ⟨w.heap.size,1,none⟩ (.int .i64 z1.a)).setCell ⟨w.heap.size,2,none⟩ (.int .i64 z1.b)).setCell ⟨w.heap.size,3,none⟩ (.int .i64 z1.n)).setCell ⟨w.heap.size,4,none⟩ (.slice o4 n4 k4)).setCell ⟨w.heap.size,5,none⟩ (.slice o5 n5 k5)).setCell ⟨w.heap.size,6,none⟩ (.slice o6 n6 k6)).setCell ⟨w.heap.size,7,none⟩ (.slice o2 z2.length k2))):=hideR (HT6.out.set 7 _)
    have HL4s0s1s2s3s4s5s6k2s7s0s1s2s3s4s5s6s7:=hideR (IntsS.keep (keep_set w ((((((((u2.setCell ⟨w.heap.size,7,none⟩ (.slice o2 z2.length k2)).setCell ⟨w.heap.size,0,none⟩ (.int .i64 z1.op)).setCell ⟨w.heap.size,1,none⟩ (.int .i64 z1.a)).setCell ⟨w.heap.size,2,none⟩ (.int .i64 z1.b)).setCell ⟨w.heap.size,3,none⟩ (.int .i64 z1.n)).setCell ⟨w.heap.size,4,none⟩ (.slice o4 n4 k4)).setCell ⟨w.heap.size,5,none⟩ (.slice o5 n5 k5)).setCell ⟨w.heap.size,6,none⟩ (.slice o6 n6 k6)) 7 (.slice o2 z2.length k2)) HL4s0s1s2s3s4s5s6k2s7s0s1s2s3s4s5s6.out)
    clear HL4s0s1s2s3s4s5s6k2s7s0s1s2s3s4s5s6
    have HL5s0s1s2s3s4s5s6k2s7s0s1s2s3s4s5s6s7:=hideR (AtS.keep (keep_set w ((((((((u2.setCell ⟨w.heap.size,7,none⟩ (.slice o2 z2.length k2)).setCell ⟨w.heap.size,0,none⟩ (.int .i64 z1.op)).setCell ⟨w.heap.size,1,none⟩ (.int .i64 z1.a)).setCell ⟨w.heap.size,2,none⟩ (.int .i64 z1.b)).setCell ⟨w.heap.size,3,none⟩ (.int .i64 z1.n)).setCell ⟨w.heap.size,4,none⟩ (.slice o4 n4 k4)).setCell ⟨w.heap.size,5,none⟩ (.slice o5 n5 k5)).setCell ⟨w.heap.size,6,none⟩ (.slice o6 n6 k6)) 7 (.slice o2 z2.length k2)) _ _ _ HL5s0s1s2s3s4s5s6k2s7s0s1s2s3s4s5s6.out)
    clear HL5s0s1s2s3s4s5s6k2s7s0s1s2s3s4s5s6
    have HL6s0s1s2s3s4s5s6k2s7s0s1s2s3s4s5s6s7:=hideR (AtS.keep (keep_set w ((((((((u2.setCell ⟨w.heap.size,7,none⟩ (.slice o2 z2.length k2)).setCell ⟨w.heap.size,0,none⟩ (.int .i64 z1.op)).setCell ⟨w.heap.size,1,none⟩ (.int .i64 z1.a)).setCell ⟨w.heap.size,2,none⟩ (.int .i64 z1.b)).setCell ⟨w.heap.size,3,none⟩ (.int .i64 z1.n)).setCell ⟨w.heap.size,4,none⟩ (.slice o4 n4 k4)).setCell ⟨w.heap.size,5,none⟩ (.slice o5 n5 k5)).setCell ⟨w.heap.size,6,none⟩ (.slice o6 n6 k6)) 7 (.slice o2 z2.length k2)) _ _ _ HL6s0s1s2s3s4s5s6k2s7s0s1s2s3s4s5s6.out)
    clear HL6s0s1s2s3s4s5s6k2s7s0s1s2s3s4s5s6
    have HL2s7s0s1s2s3s4s5s6s7:=hideR (IntsS.keep (keep_set w ((((((((u2.setCell ⟨w.heap.size,7,none⟩ (.slice o2 z2.length k2)).setCell ⟨w.heap.size,0,none⟩ (.int .i64 z1.op)).setCell ⟨w.heap.size,1,none⟩ (.int .i64 z1.a)).setCell ⟨w.heap.size,2,none⟩ (.int .i64 z1.b)).setCell ⟨w.heap.size,3,none⟩ (.int .i64 z1.n)).setCell ⟨w.heap.size,4,none⟩ (.slice o4 n4 k4)).setCell ⟨w.heap.size,5,none⟩ (.slice o5 n5 k5)).setCell ⟨w.heap.size,6,none⟩ (.slice o6 n6 k6)) 7 (.slice o2 z2.length k2)) HL2s7s0s1s2s3s4s5s6.out)
    clear HL2s7s0s1s2s3s4s5s6
    have t0:=HT7.out.cell 0 _ rfl
    have t1:=HT7.out.cell 1 _ rfl
    have t2:=HT7.out.cell 2 _ rfl
    have t3:=HT7.out.cell 3 _ rfl
    have t4:=HT7.out.cell 4 _ rfl
    have t5:=HT7.out.cell 5 _ rfl
    have t6:=HT7.out.cell 6 _ rfl
    have t7:=HT7.out.cell 7 _ rfl
    have hz:R=.ok (⟨z1,z2⟩,q2):=by rw [HR.out];unfold relm;simp only [bd_ok,bd_err,HX0.out,HX1.out,HX2.out,if_true,Bool.false_eq_true,if_false]
    rw [hz]
    exact bodyPost_ret (v:=.agg #[.int .i64 z1.op,.int .i64 z1.a,.int .i64 z1.b,.int .i64 z1.n,.slice o4 n4 k4,.slice o5 n5 k5,.slice o6 n6 k6,.slice o2 z2.length k2]) (by simp [results,Tryd.results36,go_sem,t0,t1,t2,t3,t4,t5,t6,t7]) rfl ⟨⟨_,rfl,_,_,_,_,_,_,_,_,_,_,_,_,rfl,[_,_,_,_,_,_,_],_,rfl,⟨_,_,_,rfl,(IntsS.keep (keep_out w _) HL4s0s1s2s3s4s5s6k2s7s0s1s2s3s4s5s6s7.out),(AtS.keep (keep_out w _) _ _ _ HL5s0s1s2s3s4s5s6k2s7s0s1s2s3s4s5s6s7.out),(AtS.keep (keep_out w _) _ _ _ HL6s0s1s2s3s4s5s6k2s7s0s1s2s3s4s5s6s7.out)⟩,(IntsS.keep (keep_out w _) HL2s7s0s1s2s3s4s5s6s7.out)⟩,HT7.out.rs,HT7.out.but⟩
set_option maxRecDepth 100000 in
set_option maxHeartbeats 4000000 in
theorem dDat (d:Nat):Calls Tryd.prog 39 #[.pointer (some ⟨p,0,none⟩)] w (Rds w0 p s c en k n (vDat (kDat d) w.heap.size) w (rdat d s en i)):=by
 have HS:=hideR (LI.start h 89 #[.int .i64 0,.int .i64 0,.int .i64 0,.int .i64 0,.slice none 0 0,.slice none 0 0,.slice none 0 0,.string ByteArray.empty])
 clear h
 obtain ⟨R,hR⟩:∃R,R=rdat d s en i:=⟨_,rfl⟩
 rw [<- hR]
 have HR:=hideR hR
 clear hR
 go_enter Tryd.func39,Tryd.ntmps39
 have hc0:=dMust w0 p s c en k i n (w.alloc (.cells #[.int .i64 0,.int .i64 0,.int .i64 0,.int .i64 0,.slice none 0 0,.slice none 0 0,.slice none 0 0,.string ByteArray.empty] 89)) HS.out.rs 0
 have HC0:=hideR hc0
 clear hc0
 go_wp2_with fail
 refine HC0.out.mono ?_
 intro e u0 hr
 cases hx0:must s en 0 i with
 | error z =>
  rw [hx0] at hr
  obtain ⟨rfl,hb⟩:=hr
  have HX0:=hideR hx0
  have hz:R=.error z:=by rw [HR.out];unfold rdat;simp only [bd_ok,bd_err,HX0.out,if_true,Bool.false_eq_true,if_false]
  exact ⟨rfl,by rw [hz];exact ⟨rfl,hb⟩⟩
 | ok v =>
  obtain ⟨z0,q0⟩:=v
  rw [hx0] at hr
  obtain ⟨⟨v0,rfl,hv0⟩,h1,h2⟩:=hr
  have hv0:v0=.tuple #[]:=hv0
  subst hv0
  have HX0:=hideR hx0
  have HS0:=hideR (HS.out.call h1 h2)
  clear h1 h2 hx0 HC0 HS
  have hc1:=dConst w0 p s c en k q0 n u0 HS0.out.rs d
  have HC1:=hideR hc1
  clear hc1
  go_wp2_with fail
  refine HC1.out.mono ?_
  intro e u1 hr
  cases hx1:rconst d s en q0 with
  | error z =>
   rw [hx1] at hr
   obtain ⟨rfl,hb⟩:=hr
   have HX1:=hideR hx1
   have hz:R=.error z:=by rw [HR.out];unfold rdat;simp only [bd_ok,bd_err,HX0.out,HX1.out,if_true,Bool.false_eq_true,if_false]
   exact ⟨rfl,by rw [hz];exact ⟨rfl,hb⟩⟩
  | ok v =>
   obtain ⟨z1,q1⟩:=v
   rw [hx1] at hr
   obtain ⟨⟨v1,rfl,hv1⟩,h1,h2⟩:=hr
   obtain ⟨o4,n4,k4,o5,n5,k5,o6,n6,k6,rfl,hI4,hA5,hA6⟩:=hv1
   have HL4:=hideR (hI4.keep (keep_in w u1 (by simpa using HS0.out.lt)))
   have HL5:=hideR (AtS.keep (keep_in w u1 (by simpa using HS0.out.lt)) _ _ _ hA5)
   have HL6:=hideR (AtS.keep (keep_in w u1 (by simpa using HS0.out.lt)) _ _ _ hA6)
   clear hI4 hA5 hA6
   have HX1:=hideR hx1
   have HS1:=hideR (HS0.out.call h1 h2)
   clear h1 h2 hx1 HC1 HS0
   have x0:=HS1.out.cell 0 _ rfl
   have y0:=HS1.out.frz 0
   have x1:=HS1.out.cell 1 _ rfl
   have y1:=HS1.out.frz 1
   have x2:=HS1.out.cell 2 _ rfl
   have y2:=HS1.out.frz 2
   have x3:=HS1.out.cell 3 _ rfl
   have y3:=HS1.out.frz 3
   have x4:=HS1.out.cell 4 _ rfl
   have y4:=HS1.out.frz 4
   have x5:=HS1.out.cell 5 _ rfl
   have y5:=HS1.out.frz 5
   have x6:=HS1.out.cell 6 _ rfl
   have y6:=HS1.out.frz 6
   have HS10:Hid (LI w0 w p s c en k q1 n 89 #[.int .i64 z1.op,.int .i64 0,.int .i64 0,.int .i64 0,.slice none 0 0,.slice none 0 0,.slice none 0 0,.string ByteArray.empty] (u1.setCell ⟨w.heap.size,0,none⟩ (.int .i64 z1.op))):=hideR (HS1.out.set 0 _)
   have HL4s0:=hideR (IntsS.keep (keep_set w u1 0 (.int .i64 z1.op)) HL4.out)
   clear HL4
   have HL5s0:=hideR (AtS.keep (keep_set w u1 0 (.int .i64 z1.op)) _ _ _ HL5.out)
   clear HL5
   have HL6s0:=hideR (AtS.keep (keep_set w u1 0 (.int .i64 z1.op)) _ _ _ HL6.out)
   clear HL6
   have HS101:Hid (LI w0 w p s c en k q1 n 89 #[.int .i64 z1.op,.int .i64 z1.a,.int .i64 0,.int .i64 0,.slice none 0 0,.slice none 0 0,.slice none 0 0,.string ByteArray.empty] ((u1.setCell ⟨w.heap.size,0,none⟩ (.int .i64 z1.op)).setCell ⟨w.heap.size,1,none⟩ (.int .i64 z1.a))):=hideR (HS10.out.set 1 _)
   have HL4s0s1:=hideR (IntsS.keep (keep_set w (u1.setCell ⟨w.heap.size,0,none⟩ (.int .i64 z1.op)) 1 (.int .i64 z1.a)) HL4s0.out)
   clear HL4s0
   have HL5s0s1:=hideR (AtS.keep (keep_set w (u1.setCell ⟨w.heap.size,0,none⟩ (.int .i64 z1.op)) 1 (.int .i64 z1.a)) _ _ _ HL5s0.out)
   clear HL5s0
   have HL6s0s1:=hideR (AtS.keep (keep_set w (u1.setCell ⟨w.heap.size,0,none⟩ (.int .i64 z1.op)) 1 (.int .i64 z1.a)) _ _ _ HL6s0.out)
   clear HL6s0
   have HS1012:Hid (LI w0 w p s c en k q1 n 89 #[.int .i64 z1.op,.int .i64 z1.a,.int .i64 z1.b,.int .i64 0,.slice none 0 0,.slice none 0 0,.slice none 0 0,.string ByteArray.empty] (((u1.setCell ⟨w.heap.size,0,none⟩ (.int .i64 z1.op)).setCell ⟨w.heap.size,1,none⟩ (.int .i64 z1.a)).setCell ⟨w.heap.size,2,none⟩ (.int .i64 z1.b))):=hideR (HS101.out.set 2 _)
   have HL4s0s1s2:=hideR (IntsS.keep (keep_set w ((u1.setCell ⟨w.heap.size,0,none⟩ (.int .i64 z1.op)).setCell ⟨w.heap.size,1,none⟩ (.int .i64 z1.a)) 2 (.int .i64 z1.b)) HL4s0s1.out)
   clear HL4s0s1
   have HL5s0s1s2:=hideR (AtS.keep (keep_set w ((u1.setCell ⟨w.heap.size,0,none⟩ (.int .i64 z1.op)).setCell ⟨w.heap.size,1,none⟩ (.int .i64 z1.a)) 2 (.int .i64 z1.b)) _ _ _ HL5s0s1.out)
   clear HL5s0s1
   have HL6s0s1s2:=hideR (AtS.keep (keep_set w ((u1.setCell ⟨w.heap.size,0,none⟩ (.int .i64 z1.op)).setCell ⟨w.heap.size,1,none⟩ (.int .i64 z1.a)) 2 (.int .i64 z1.b)) _ _ _ HL6s0s1.out)
   clear HL6s0s1
   have HS10123:Hid (LI w0 w p s c en k q1 n 89 #[.int .i64 z1.op,.int .i64 z1.a,.int .i64 z1.b,.int .i64 z1.n,.slice none 0 0,.slice none 0 0,.slice none 0 0,.string ByteArray.empty] ((((u1.setCell ⟨w.heap.size,0,none⟩ (.int .i64 z1.op)).setCell ⟨w.heap.size,1,none⟩ (.int .i64 z1.a)).setCell ⟨w.heap.size,2,none⟩ (.int .i64 z1.b)).setCell ⟨w.heap.size,3,none⟩ (.int .i64 z1.n))):=hideR (HS1012.out.set 3 _)
   have HL4s0s1s2s3:=hideR (IntsS.keep (keep_set w (((u1.setCell ⟨w.heap.size,0,none⟩ (.int .i64 z1.op)).setCell ⟨w.heap.size,1,none⟩ (.int .i64 z1.a)).setCell ⟨w.heap.size,2,none⟩ (.int .i64 z1.b)) 3 (.int .i64 z1.n)) HL4s0s1s2.out)
   clear HL4s0s1s2
   have HL5s0s1s2s3:=hideR (AtS.keep (keep_set w (((u1.setCell ⟨w.heap.size,0,none⟩ (.int .i64 z1.op)).setCell ⟨w.heap.size,1,none⟩ (.int .i64 z1.a)).setCell ⟨w.heap.size,2,none⟩ (.int .i64 z1.b)) 3 (.int .i64 z1.n)) _ _ _ HL5s0s1s2.out)
   clear HL5s0s1s2
   have HL6s0s1s2s3:=hideR (AtS.keep (keep_set w (((u1.setCell ⟨w.heap.size,0,none⟩ (.int .i64 z1.op)).setCell ⟨w.heap.size,1,none⟩ (.int .i64 z1.a)).setCell ⟨w.heap.size,2,none⟩ (.int .i64 z1.b)) 3 (.int .i64 z1.n)) _ _ _ HL6s0s1s2.out)
   clear HL6s0s1s2
   have HS101234:Hid (LI w0 w p s c en k q1 n 89 #[.int .i64 z1.op,.int .i64 z1.a,.int .i64 z1.b,.int .i64 z1.n,.slice o4 n4 k4,.slice none 0 0,.slice none 0 0,.string ByteArray.empty] (((((u1.setCell ⟨w.heap.size,0,none⟩ (.int .i64 z1.op)).setCell ⟨w.heap.size,1,none⟩ (.int .i64 z1.a)).setCell ⟨w.heap.size,2,none⟩ (.int .i64 z1.b)).setCell ⟨w.heap.size,3,none⟩ (.int .i64 z1.n)).setCell ⟨w.heap.size,4,none⟩ (.slice o4 n4 k4))):=hideR (HS10123.out.set 4 _)
   have HL4s0s1s2s3s4:=hideR (IntsS.keep (keep_set w ((((u1.setCell ⟨w.heap.size,0,none⟩ (.int .i64 z1.op)).setCell ⟨w.heap.size,1,none⟩ (.int .i64 z1.a)).setCell ⟨w.heap.size,2,none⟩ (.int .i64 z1.b)).setCell ⟨w.heap.size,3,none⟩ (.int .i64 z1.n)) 4 (.slice o4 n4 k4)) HL4s0s1s2s3.out)
   clear HL4s0s1s2s3
   have HL5s0s1s2s3s4:=hideR (AtS.keep (keep_set w ((((u1.setCell ⟨w.heap.size,0,none⟩ (.int .i64 z1.op)).setCell ⟨w.heap.size,1,none⟩ (.int .i64 z1.a)).setCell ⟨w.heap.size,2,none⟩ (.int .i64 z1.b)).setCell ⟨w.heap.size,3,none⟩ (.int .i64 z1.n)) 4 (.slice o4 n4 k4)) _ _ _ HL5s0s1s2s3.out)
   clear HL5s0s1s2s3
   have HL6s0s1s2s3s4:=hideR (AtS.keep (keep_set w ((((u1.setCell ⟨w.heap.size,0,none⟩ (.int .i64 z1.op)).setCell ⟨w.heap.size,1,none⟩ (.int .i64 z1.a)).setCell ⟨w.heap.size,2,none⟩ (.int .i64 z1.b)).setCell ⟨w.heap.size,3,none⟩ (.int .i64 z1.n)) 4 (.slice o4 n4 k4)) _ _ _ HL6s0s1s2s3.out)
   clear HL6s0s1s2s3
   have HS1012345:Hid (LI w0 w p s c en k q1 n 89 #[.int .i64 z1.op,.int .i64 z1.a,.int .i64 z1.b,.int .i64 z1.n,.slice o4 n4 k4,.slice o5 n5 k5,.slice none 0 0,.string ByteArray.empty] ((((((u1.setCell ⟨w.heap.size,0,none⟩ (.int .i64 z1.op)).setCell ⟨w.heap.size,1,none⟩ (.int .i64 z1.a)).setCell ⟨w.heap.size,2,none⟩ (.int .i64 z1.b)).setCell ⟨w.heap.size,3,none⟩ (.int .i64 z1.n)).setCell ⟨w.heap.size,4,none⟩ (.slice o4 n4 k4)).setCell ⟨w.heap.size,5,none⟩ (.slice o5 n5 k5))):=hideR (HS101234.out.set 5 _)
   have HL4s0s1s2s3s4s5:=hideR (IntsS.keep (keep_set w (((((u1.setCell ⟨w.heap.size,0,none⟩ (.int .i64 z1.op)).setCell ⟨w.heap.size,1,none⟩ (.int .i64 z1.a)).setCell ⟨w.heap.size,2,none⟩ (.int .i64 z1.b)).setCell ⟨w.heap.size,3,none⟩ (.int .i64 z1.n)).setCell ⟨w.heap.size,4,none⟩ (.slice o4 n4 k4)) 5 (.slice o5 n5 k5)) HL4s0s1s2s3s4.out)
   clear HL4s0s1s2s3s4
   have HL5s0s1s2s3s4s5:=hideR (AtS.keep (keep_set w (((((u1.setCell ⟨w.heap.size,0,none⟩ (.int .i64 z1.op)).setCell ⟨w.heap.size,1,none⟩ (.int .i64 z1.a)).setCell ⟨w.heap.size,2,none⟩ (.int .i64 z1.b)).setCell ⟨w.heap.size,3,none⟩ (.int .i64 z1.n)).setCell ⟨w.heap.size,4,none⟩ (.slice o4 n4 k4)) 5 (.slice o5 n5 k5)) _ _ _ HL5s0s1s2s3s4.out)
   clear HL5s0s1s2s3s4
   have HL6s0s1s2s3s4s5:=hideR (AtS.keep (keep_set w (((((u1.setCell ⟨w.heap.size,0,none⟩ (.int .i64 z1.op)).setCell ⟨w.heap.size,1,none⟩ (.int .i64 z1.a)).setCell ⟨w.heap.size,2,none⟩ (.int .i64 z1.b)).setCell ⟨w.heap.size,3,none⟩ (.int .i64 z1.n)).setCell ⟨w.heap.size,4,none⟩ (.slice o4 n4 k4)) 5 (.slice o5 n5 k5)) _ _ _ HL6s0s1s2s3s4.out)
   clear HL6s0s1s2s3s4
   have HS10123456:Hid (LI w0 w p s c en k q1 n 89 #[.int .i64 z1.op,.int .i64 z1.a,.int .i64 z1.b,.int .i64 z1.n,.slice o4 n4 k4,.slice o5 n5 k5,.slice o6 n6 k6,.string ByteArray.empty] (((((((u1.setCell ⟨w.heap.size,0,none⟩ (.int .i64 z1.op)).setCell ⟨w.heap.size,1,none⟩ (.int .i64 z1.a)).setCell ⟨w.heap.size,2,none⟩ (.int .i64 z1.b)).setCell ⟨w.heap.size,3,none⟩ (.int .i64 z1.n)).setCell ⟨w.heap.size,4,none⟩ (.slice o4 n4 k4)).setCell ⟨w.heap.size,5,none⟩ (.slice o5 n5 k5)).setCell ⟨w.heap.size,6,none⟩ (.slice o6 n6 k6))):=hideR (HS1012345.out.set 6 _)
   have HL4s0s1s2s3s4s5s6:=hideR (IntsS.keep (keep_set w ((((((u1.setCell ⟨w.heap.size,0,none⟩ (.int .i64 z1.op)).setCell ⟨w.heap.size,1,none⟩ (.int .i64 z1.a)).setCell ⟨w.heap.size,2,none⟩ (.int .i64 z1.b)).setCell ⟨w.heap.size,3,none⟩ (.int .i64 z1.n)).setCell ⟨w.heap.size,4,none⟩ (.slice o4 n4 k4)).setCell ⟨w.heap.size,5,none⟩ (.slice o5 n5 k5)) 6 (.slice o6 n6 k6)) HL4s0s1s2s3s4s5.out)
   clear HL4s0s1s2s3s4s5
   have HL5s0s1s2s3s4s5s6:=hideR (AtS.keep (keep_set w ((((((u1.setCell ⟨w.heap.size,0,none⟩ (.int .i64 z1.op)).setCell ⟨w.heap.size,1,none⟩ (.int .i64 z1.a)).setCell ⟨w.heap.size,2,none⟩ (.int .i64 z1.b)).setCell ⟨w.heap.size,3,none⟩ (.int .i64 z1.n)).setCell ⟨w.heap.size,4,none⟩ (.slice o4 n4 k4)).setCell ⟨w.heap.size,5,none⟩ (.slice o5 n5 k5)) 6 (.slice o6 n6 k6)) _ _ _ HL5s0s1s2s3s4s5.out)
   clear HL5s0s1s2s3s4s5
   have HL6s0s1s2s3s4s5s6:=hideR (AtS.keep (keep_set w ((((((u1.setCell ⟨w.heap.size,0,none⟩ (.int .i64 z1.op)).setCell ⟨w.heap.size,1,none⟩ (.int .i64 z1.a)).setCell ⟨w.heap.size,2,none⟩ (.int .i64 z1.b)).setCell ⟨w.heap.size,3,none⟩ (.int .i64 z1.n)).setCell ⟨w.heap.size,4,none⟩ (.slice o4 n4 k4)).setCell ⟨w.heap.size,5,none⟩ (.slice o5 n5 k5)) 6 (.slice o6 n6 k6)) _ _ _ HL6s0s1s2s3s4s5.out)
   clear HL6s0s1s2s3s4s5
   have hc2:=dText w0 p s c en k q1 n (((((((u1.setCell ⟨w.heap.size,0,none⟩ (.int .i64 z1.op)).setCell ⟨w.heap.size,1,none⟩ (.int .i64 z1.a)).setCell ⟨w.heap.size,2,none⟩ (.int .i64 z1.b)).setCell ⟨w.heap.size,3,none⟩ (.int .i64 z1.n)).setCell ⟨w.heap.size,4,none⟩ (.slice o4 n4 k4)).setCell ⟨w.heap.size,5,none⟩ (.slice o5 n5 k5)).setCell ⟨w.heap.size,6,none⟩ (.slice o6 n6 k6)) HS10123456.out.rs
   have HC2:=hideR hc2
   clear hc2
   go_wp2_with fail
   refine HC2.out.mono ?_
   intro e u2 hr
   cases hx2:rtext s en q1 with
   | error z =>
    rw [hx2] at hr
    obtain ⟨rfl,hb⟩:=hr
    have HX2:=hideR hx2
    have hz:R=.error z:=by rw [HR.out];unfold rdat;simp only [bd_ok,bd_err,HX0.out,HX1.out,HX2.out,if_true,Bool.false_eq_true,if_false]
    exact ⟨rfl,by rw [hz];exact ⟨rfl,hb⟩⟩
   | ok v =>
    obtain ⟨z2,q2⟩:=v
    rw [hx2] at hr
    obtain ⟨⟨v2,rfl,hv2⟩,h1,h2⟩:=hr
    have HL4s0s1s2s3s4s5s6k2:=hideR (IntsS.keep (HS10123456.out.kept h2) HL4s0s1s2s3s4s5s6.out)
    clear HL4s0s1s2s3s4s5s6
    have HL5s0s1s2s3s4s5s6k2:=hideR (AtS.keep (HS10123456.out.kept h2) _ _ _ HL5s0s1s2s3s4s5s6.out)
    clear HL5s0s1s2s3s4s5s6
    have HL6s0s1s2s3s4s5s6k2:=hideR (AtS.keep (HS10123456.out.kept h2) _ _ _ HL6s0s1s2s3s4s5s6.out)
    clear HL6s0s1s2s3s4s5s6
    have hv2:v2=.string z2:=hv2
    subst hv2
    have HX2:=hideR hx2
    have HS2:=hideR (HS10123456.out.call h1 h2)
    clear h1 h2 hx2 HC2 HS10123456
    have x7:=HS2.out.cell 7 _ rfl
    have y7:=HS2.out.frz 7
    have HS27:Hid (LI w0 w p s c en k q2 n 89 #[.int .i64 z1.op,.int .i64 z1.a,.int .i64 z1.b,.int .i64 z1.n,.slice o4 n4 k4,.slice o5 n5 k5,.slice o6 n6 k6,.string z2] (u2.setCell ⟨w.heap.size,7,none⟩ (.string z2))):=hideR (HS2.out.set 7 _)
    have HL4s0s1s2s3s4s5s6k2s7:=hideR (IntsS.keep (keep_set w u2 7 (.string z2)) HL4s0s1s2s3s4s5s6k2.out)
    clear HL4s0s1s2s3s4s5s6k2
    have HL5s0s1s2s3s4s5s6k2s7:=hideR (AtS.keep (keep_set w u2 7 (.string z2)) _ _ _ HL5s0s1s2s3s4s5s6k2.out)
    clear HL5s0s1s2s3s4s5s6k2
    have HL6s0s1s2s3s4s5s6k2s7:=hideR (AtS.keep (keep_set w u2 7 (.string z2)) _ _ _ HL6s0s1s2s3s4s5s6k2.out)
    clear HL6s0s1s2s3s4s5s6k2
    have x0:=HS27.out.cell 0 _ rfl
    have y0:=HS27.out.frz 0
    have x1:=HS27.out.cell 1 _ rfl
    have y1:=HS27.out.frz 1
    have x2:=HS27.out.cell 2 _ rfl
    have y2:=HS27.out.frz 2
    have x3:=HS27.out.cell 3 _ rfl
    have y3:=HS27.out.frz 3
    have x4:=HS27.out.cell 4 _ rfl
    have y4:=HS27.out.frz 4
    have x5:=HS27.out.cell 5 _ rfl
    have y5:=HS27.out.frz 5
    have x6:=HS27.out.cell 6 _ rfl
    have y6:=HS27.out.frz 6
    have x7:=HS27.out.cell 7 _ rfl
    have y7:=HS27.out.frz 7
    go_wp2
    have HT0:Hid (LI w0 w p s c en k q2 n 89 #[.int .i64 z1.op,.int .i64 z1.a,.int .i64 z1.b,.int .i64 z1.n,.slice o4 n4 k4,.slice o5 n5 k5,.slice o6 n6 k6,.string z2] ((u2.setCell ⟨w.heap.size,7,none⟩ (.string z2)).setCell ⟨w.heap.size,0,none⟩ (.int .i64 z1.op))):=hideR (HS27.out.set 0 _)
    have HL4s0s1s2s3s4s5s6k2s7s0:=hideR (IntsS.keep (keep_set w (u2.setCell ⟨w.heap.size,7,none⟩ (.string z2)) 0 (.int .i64 z1.op)) HL4s0s1s2s3s4s5s6k2s7.out)
    clear HL4s0s1s2s3s4s5s6k2s7
    have HL5s0s1s2s3s4s5s6k2s7s0:=hideR (AtS.keep (keep_set w (u2.setCell ⟨w.heap.size,7,none⟩ (.string z2)) 0 (.int .i64 z1.op)) _ _ _ HL5s0s1s2s3s4s5s6k2s7.out)
    clear HL5s0s1s2s3s4s5s6k2s7
    have HL6s0s1s2s3s4s5s6k2s7s0:=hideR (AtS.keep (keep_set w (u2.setCell ⟨w.heap.size,7,none⟩ (.string z2)) 0 (.int .i64 z1.op)) _ _ _ HL6s0s1s2s3s4s5s6k2s7.out)
    clear HL6s0s1s2s3s4s5s6k2s7
    have HT1:Hid (LI w0 w p s c en k q2 n 89 #[.int .i64 z1.op,.int .i64 z1.a,.int .i64 z1.b,.int .i64 z1.n,.slice o4 n4 k4,.slice o5 n5 k5,.slice o6 n6 k6,.string z2] (((u2.setCell ⟨w.heap.size,7,none⟩ (.string z2)).setCell ⟨w.heap.size,0,none⟩ (.int .i64 z1.op)).setCell ⟨w.heap.size,1,none⟩ (.int .i64 z1.a))):=hideR (HT0.out.set 1 _)
    have HL4s0s1s2s3s4s5s6k2s7s0s1:=hideR (IntsS.keep (keep_set w ((u2.setCell ⟨w.heap.size,7,none⟩ (.string z2)).setCell ⟨w.heap.size,0,none⟩ (.int .i64 z1.op)) 1 (.int .i64 z1.a)) HL4s0s1s2s3s4s5s6k2s7s0.out)
    clear HL4s0s1s2s3s4s5s6k2s7s0
    have HL5s0s1s2s3s4s5s6k2s7s0s1:=hideR (AtS.keep (keep_set w ((u2.setCell ⟨w.heap.size,7,none⟩ (.string z2)).setCell ⟨w.heap.size,0,none⟩ (.int .i64 z1.op)) 1 (.int .i64 z1.a)) _ _ _ HL5s0s1s2s3s4s5s6k2s7s0.out)
    clear HL5s0s1s2s3s4s5s6k2s7s0
    have HL6s0s1s2s3s4s5s6k2s7s0s1:=hideR (AtS.keep (keep_set w ((u2.setCell ⟨w.heap.size,7,none⟩ (.string z2)).setCell ⟨w.heap.size,0,none⟩ (.int .i64 z1.op)) 1 (.int .i64 z1.a)) _ _ _ HL6s0s1s2s3s4s5s6k2s7s0.out)
    clear HL6s0s1s2s3s4s5s6k2s7s0
    have HT2:Hid (LI w0 w p s c en k q2 n 89 #[.int .i64 z1.op,.int .i64 z1.a,.int .i64 z1.b,.int .i64 z1.n,.slice o4 n4 k4,.slice o5 n5 k5,.slice o6 n6 k6,.string z2] ((((u2.setCell ⟨w.heap.size,7,none⟩ (.string z2)).setCell ⟨w.heap.size,0,none⟩ (.int .i64 z1.op)).setCell ⟨w.heap.size,1,none⟩ (.int .i64 z1.a)).setCell ⟨w.heap.size,2,none⟩ (.int .i64 z1.b))):=hideR (HT1.out.set 2 _)
    have HL4s0s1s2s3s4s5s6k2s7s0s1s2:=hideR (IntsS.keep (keep_set w (((u2.setCell ⟨w.heap.size,7,none⟩ (.string z2)).setCell ⟨w.heap.size,0,none⟩ (.int .i64 z1.op)).setCell ⟨w.heap.size,1,none⟩ (.int .i64 z1.a)) 2 (.int .i64 z1.b)) HL4s0s1s2s3s4s5s6k2s7s0s1.out)
    clear HL4s0s1s2s3s4s5s6k2s7s0s1
    have HL5s0s1s2s3s4s5s6k2s7s0s1s2:=hideR (AtS.keep (keep_set w (((u2.setCell ⟨w.heap.size,7,none⟩ (.string z2)).setCell ⟨w.heap.size,0,none⟩ (.int .i64 z1.op)).setCell ⟨w.heap.size,1,none⟩ (.int .i64 z1.a)) 2 (.int .i64 z1.b)) _ _ _ HL5s0s1s2s3s4s5s6k2s7s0s1.out)
    clear HL5s0s1s2s3s4s5s6k2s7s0s1
    have HL6s0s1s2s3s4s5s6k2s7s0s1s2:=hideR (AtS.keep (keep_set w (((u2.setCell ⟨w.heap.size,7,none⟩ (.string z2)).setCell ⟨w.heap.size,0,none⟩ (.int .i64 z1.op)).setCell ⟨w.heap.size,1,none⟩ (.int .i64 z1.a)) 2 (.int .i64 z1.b)) _ _ _ HL6s0s1s2s3s4s5s6k2s7s0s1.out)
    clear HL6s0s1s2s3s4s5s6k2s7s0s1
    have HT3:Hid (LI w0 w p s c en k q2 n 89 #[.int .i64 z1.op,.int .i64 z1.a,.int .i64 z1.b,.int .i64 z1.n,.slice o4 n4 k4,.slice o5 n5 k5,.slice o6 n6 k6,.string z2] (((((u2.setCell ⟨w.heap.size,7,none⟩ (.string z2)).setCell ⟨w.heap.size,0,none⟩ (.int .i64 z1.op)).setCell ⟨w.heap.size,1,none⟩ (.int .i64 z1.a)).setCell ⟨w.heap.size,2,none⟩ (.int .i64 z1.b)).setCell ⟨w.heap.size,3,none⟩ (.int .i64 z1.n))):=hideR (HT2.out.set 3 _)
    have HL4s0s1s2s3s4s5s6k2s7s0s1s2s3:=hideR (IntsS.keep (keep_set w ((((u2.setCell ⟨w.heap.size,7,none⟩ (.string z2)).setCell ⟨w.heap.size,0,none⟩ (.int .i64 z1.op)).setCell ⟨w.heap.size,1,none⟩ (.int .i64 z1.a)).setCell ⟨w.heap.size,2,none⟩ (.int .i64 z1.b)) 3 (.int .i64 z1.n)) HL4s0s1s2s3s4s5s6k2s7s0s1s2.out)
    clear HL4s0s1s2s3s4s5s6k2s7s0s1s2
    have HL5s0s1s2s3s4s5s6k2s7s0s1s2s3:=hideR (AtS.keep (keep_set w ((((u2.setCell ⟨w.heap.size,7,none⟩ (.string z2)).setCell ⟨w.heap.size,0,none⟩ (.int .i64 z1.op)).setCell ⟨w.heap.size,1,none⟩ (.int .i64 z1.a)).setCell ⟨w.heap.size,2,none⟩ (.int .i64 z1.b)) 3 (.int .i64 z1.n)) _ _ _ HL5s0s1s2s3s4s5s6k2s7s0s1s2.out)
    clear HL5s0s1s2s3s4s5s6k2s7s0s1s2
    have HL6s0s1s2s3s4s5s6k2s7s0s1s2s3:=hideR (AtS.keep (keep_set w ((((u2.setCell ⟨w.heap.size,7,none⟩ (.string z2)).setCell ⟨w.heap.size,0,none⟩ (.int .i64 z1.op)).setCell ⟨w.heap.size,1,none⟩ (.int .i64 z1.a)).setCell ⟨w.heap.size,2,none⟩ (.int .i64 z1.b)) 3 (.int .i64 z1.n)) _ _ _ HL6s0s1s2s3s4s5s6k2s7s0s1s2.out)
    clear HL6s0s1s2s3s4s5s6k2s7s0s1s2
    have HT4:Hid (LI w0 w p s c en k q2 n 89 #[.int .i64 z1.op,.int .i64 z1.a,.int .i64 z1.b,.int .i64 z1.n,.slice o4 n4 k4,.slice o5 n5 k5,.slice o6 n6 k6,.string z2] ((((((u2.setCell ⟨w.heap.size,7,none⟩ (.string z2)).setCell ⟨w.heap.size,0,none⟩ (.int .i64 z1.op)).setCell ⟨w.heap.size,1,none⟩ (.int .i64 z1.a)).setCell ⟨w.heap.size,2,none⟩ (.int .i64 z1.b)).setCell ⟨w.heap.size,3,none⟩ (.int .i64 z1.n)).setCell ⟨w.heap.size,4,none⟩ (.slice o4 n4 k4))):=hideR (HT3.out.set 4 _)
    have HL4s0s1s2s3s4s5s6k2s7s0s1s2s3s4:=hideR (IntsS.keep (keep_set w (((((u2.setCell ⟨w.heap.size,7,none⟩ (.string z2)).setCell ⟨w.heap.size,0,none⟩ (.int .i64 z1.op)).setCell ⟨w.heap.size,1,none⟩ (.int .i64 z1.a)).setCell ⟨w.heap.size,2,none⟩ (.int .i64 z1.b)).setCell ⟨w.heap.size,3,none⟩ (.int .i64 z1.n)) 4 (.slice o4 n4 k4)) HL4s0s1s2s3s4s5s6k2s7s0s1s2s3.out)
    clear HL4s0s1s2s3s4s5s6k2s7s0s1s2s3
    have HL5s0s1s2s3s4s5s6k2s7s0s1s2s3s4:=hideR (AtS.keep (keep_set w (((((u2.setCell ⟨w.heap.size,7,none⟩ (.string z2)).setCell ⟨w.heap.size,0,none⟩ (.int .i64 z1.op)).setCell ⟨w.heap.size,1,none⟩ (.int .i64 z1.a)).setCell ⟨w.heap.size,2,none⟩ (.int .i64 z1.b)).setCell ⟨w.heap.size,3,none⟩ (.int .i64 z1.n)) 4 (.slice o4 n4 k4)) _ _ _ HL5s0s1s2s3s4s5s6k2s7s0s1s2s3.out)
    clear HL5s0s1s2s3s4s5s6k2s7s0s1s2s3
    have HL6s0s1s2s3s4s5s6k2s7s0s1s2s3s4:=hideR (AtS.keep (keep_set w (((((u2.setCell ⟨w.heap.size,7,none⟩ (.string z2)).setCell ⟨w.heap.size,0,none⟩ (.int .i64 z1.op)).setCell ⟨w.heap.size,1,none⟩ (.int .i64 z1.a)).setCell ⟨w.heap.size,2,none⟩ (.int .i64 z1.b)).setCell ⟨w.heap.size,3,none⟩ (.int .i64 z1.n)) 4 (.slice o4 n4 k4)) _ _ _ HL6s0s1s2s3s4s5s6k2s7s0s1s2s3.out)
    clear HL6s0s1s2s3s4s5s6k2s7s0s1s2s3
    have HT5:Hid (LI w0 w p s c en k q2 n 89 #[.int .i64 z1.op,.int .i64 z1.a,.int .i64 z1.b,.int .i64 z1.n,.slice o4 n4 k4,.slice o5 n5 k5,.slice o6 n6 k6,.string z2] (((((((u2.setCell ⟨w.heap.size,7,none⟩ (.string z2)).setCell ⟨w.heap.size,0,none⟩ (.int .i64 z1.op)).setCell ⟨w.heap.size,1,none⟩ (.int .i64 z1.a)).setCell ⟨w.heap.size,2,none⟩ (.int .i64 z1.b)).setCell ⟨w.heap.size,3,none⟩ (.int .i64 z1.n)).setCell ⟨w.heap.size,4,none⟩ (.slice o4 n4 k4)).setCell ⟨w.heap.size,5,none⟩ (.slice o5 n5 k5))):=hideR (HT4.out.set 5 _)
    have HL4s0s1s2s3s4s5s6k2s7s0s1s2s3s4s5:=hideR (IntsS.keep (keep_set w ((((((u2.setCell ⟨w.heap.size,7,none⟩ (.string z2)).setCell ⟨w.heap.size,0,none⟩ (.int .i64 z1.op)).setCell ⟨w.heap.size,1,none⟩ (.int .i64 z1.a)).setCell ⟨w.heap.size,2,none⟩ (.int .i64 z1.b)).setCell ⟨w.heap.size,3,none⟩ (.int .i64 z1.n)).setCell ⟨w.heap.size,4,none⟩ (.slice o4 n4 k4)) 5 (.slice o5 n5 k5)) HL4s0s1s2s3s4s5s6k2s7s0s1s2s3s4.out)
    clear HL4s0s1s2s3s4s5s6k2s7s0s1s2s3s4
    have HL5s0s1s2s3s4s5s6k2s7s0s1s2s3s4s5:=hideR (AtS.keep (keep_set w ((((((u2.setCell ⟨w.heap.size,7,none⟩ (.string z2)).setCell ⟨w.heap.size,0,none⟩ (.int .i64 z1.op)).setCell ⟨w.heap.size,1,none⟩ (.int .i64 z1.a)).setCell ⟨w.heap.size,2,none⟩ (.int .i64 z1.b)).setCell ⟨w.heap.size,3,none⟩ (.int .i64 z1.n)).setCell ⟨w.heap.size,4,none⟩ (.slice o4 n4 k4)) 5 (.slice o5 n5 k5)) _ _ _ HL5s0s1s2s3s4s5s6k2s7s0s1s2s3s4.out)
    clear HL5s0s1s2s3s4s5s6k2s7s0s1s2s3s4
    have HL6s0s1s2s3s4s5s6k2s7s0s1s2s3s4s5:=hideR (AtS.keep (keep_set w ((((((u2.setCell ⟨w.heap.size,7,none⟩ (.string z2)).setCell ⟨w.heap.size,0,none⟩ (.int .i64 z1.op)).setCell ⟨w.heap.size,1,none⟩ (.int .i64 z1.a)).setCell ⟨w.heap.size,2,none⟩ (.int .i64 z1.b)).setCell ⟨w.heap.size,3,none⟩ (.int .i64 z1.n)).setCell ⟨w.heap.size,4,none⟩ (.slice o4 n4 k4)) 5 (.slice o5 n5 k5)) _ _ _ HL6s0s1s2s3s4s5s6k2s7s0s1s2s3s4.out)
    clear HL6s0s1s2s3s4s5s6k2s7s0s1s2s3s4
    have HT6:Hid (LI w0 w p s c en k q2 n 89 #[.int .i64 z1.op,.int .i64 z1.a,.int .i64 z1.b,.int .i64 z1.n,.slice o4 n4 k4,.slice o5 n5 k5,.slice o6 n6 k6,.string z2] ((((((((u2.setCell ⟨w.heap.size,7,none⟩ (.string z2)).setCell ⟨w.heap.size,0,none⟩ (.int .i64 z1.op)).setCell ⟨w.heap.size,1,none⟩ (.int .i64 z1.a)).setCell ⟨w.heap.size,2,none⟩ (.int .i64 z1.b)).setCell ⟨w.heap.size,3,none⟩ (.int .i64 z1.n)).setCell ⟨w.heap.size,4,none⟩ (.slice o4 n4 k4)).setCell ⟨w.heap.size,5,none⟩ (.slice o5 n5 k5)).setCell ⟨w.heap.size,6,none⟩ (.slice o6 n6 k6))):=hideR (HT5.out.set 6 _)
    have HL4s0s1s2s3s4s5s6k2s7s0s1s2s3s4s5s6:=hideR (IntsS.keep (keep_set w (((((((u2.setCell ⟨w.heap.size,7,none⟩ (.string z2)).setCell ⟨w.heap.size,0,none⟩ (.int .i64 z1.op)).setCell ⟨w.heap.size,1,none⟩ (.int .i64 z1.a)).setCell ⟨w.heap.size,2,none⟩ (.int .i64 z1.b)).setCell ⟨w.heap.size,3,none⟩ (.int .i64 z1.n)).setCell ⟨w.heap.size,4,none⟩ (.slice o4 n4 k4)).setCell ⟨w.heap.size,5,none⟩ (.slice o5 n5 k5)) 6 (.slice o6 n6 k6)) HL4s0s1s2s3s4s5s6k2s7s0s1s2s3s4s5.out)
    clear HL4s0s1s2s3s4s5s6k2s7s0s1s2s3s4s5
    have HL5s0s1s2s3s4s5s6k2s7s0s1s2s3s4s5s6:=hideR (AtS.keep (keep_set w (((((((u2.setCell ⟨w.heap.size,7,none⟩ (.string z2)).setCell ⟨w.heap.size,0,none⟩ (.int .i64 z1.op)).setCell ⟨w.heap.size,1,none⟩ (.int .i64 z1.a)).setCell ⟨w.heap.size,2,none⟩ (.int .i64 z1.b)).setCell ⟨w.heap.size,3,none⟩ (.int .i64 z1.n)).setCell ⟨w.heap.size,4,none⟩ (.slice o4 n4 k4)).setCell ⟨w.heap.size,5,none⟩ (.slice o5 n5 k5)) 6 (.slice o6 n6 k6)) _ _ _ HL5s0s1s2s3s4s5s6k2s7s0s1s2s3s4s5.out)
    clear HL5s0s1s2s3s4s5s6k2s7s0s1s2s3s4s5
    have HL6s0s1s2s3s4s5s6k2s7s0s1s2s3s4s5s6:=hideR (AtS.keep (keep_set w (((((((u2.setCell ⟨w.heap.size,7,none⟩ (.string z2)).setCell ⟨w.heap.size,0,none⟩ (.int .i64 z1.op)).setCell ⟨w.heap.size,1,none⟩ (.int .i64 z1.a)).setCell ⟨w.heap.size,2,none⟩ (.int .i64 z1.b)).setCell ⟨w.heap.size,3,none⟩ (.int .i64 z1.n)).setCell ⟨w.heap.size,4,none⟩ (.slice o4 n4 k4)).setCell ⟨w.heap.size,5,none⟩ (.slice o5 n5 k5)) 6 (.slice o6 n6 k6)) _ _ _ HL6s0s1s2s3s4s5s6k2s7s0s1s2s3s4s5.out)
    clear HL6s0s1s2s3s4s5s6k2s7s0s1s2s3s4s5
    have HT7:Hid (LI w0 w p s c en k q2 n 89 #[.int .i64 z1.op,.int .i64 z1.a,.int .i64 z1.b,.int .i64 z1.n,.slice o4 n4 k4,.slice o5 n5 k5,.slice o6 n6 k6,.string z2] (((((((((u2.setCell ⟨w.heap.size,7,none⟩ (.string z2)).setCell ⟨w.heap.size,0,none⟩ (.int .i64 z1.op)).setCell ⟨w.heap.size,1,none⟩ (.int .i64 z1.a)).setCell ⟨w.heap.size,2,none⟩ (.int .i64 z1.b)).setCell ⟨w.heap.size,3,none⟩ (.int .i64 z1.n)).setCell ⟨w.heap.size,4,none⟩ (.slice o4 n4 k4)).setCell ⟨w.heap.size,5,none⟩ (.slice o5 n5 k5)).setCell ⟨w.heap.size,6,none⟩ (.slice o6 n6 k6)).setCell ⟨w.heap.size,7,none⟩ (.string z2))):=hideR (HT6.out.set 7 _)
    have HL4s0s1s2s3s4s5s6k2s7s0s1s2s3s4s5s6s7:=hideR (IntsS.keep (keep_set w ((((((((u2.setCell ⟨w.heap.size,7,none⟩ (.string z2)).setCell ⟨w.heap.size,0,none⟩ (.int .i64 z1.op)).setCell ⟨w.heap.size,1,none⟩ (.int .i64 z1.a)).setCell ⟨w.heap.size,2,none⟩ (.int .i64 z1.b)).setCell ⟨w.heap.size,3,none⟩ (.int .i64 z1.n)).setCell ⟨w.heap.size,4,none⟩ (.slice o4 n4 k4)).setCell ⟨w.heap.size,5,none⟩ (.slice o5 n5 k5)).setCell ⟨w.heap.size,6,none⟩ (.slice o6 n6 k6)) 7 (.string z2)) HL4s0s1s2s3s4s5s6k2s7s0s1s2s3s4s5s6.out)
    clear HL4s0s1s2s3s4s5s6k2s7s0s1s2s3s4s5s6
    have HL5s0s1s2s3s4s5s6k2s7s0s1s2s3s4s5s6s7:=hideR (AtS.keep (keep_set w ((((((((u2.setCell ⟨w.heap.size,7,none⟩ (.string z2)).setCell ⟨w.heap.size,0,none⟩ (.int .i64 z1.op)).setCell ⟨w.heap.size,1,none⟩ (.int .i64 z1.a)).setCell ⟨w.heap.size,2,none⟩ (.int .i64 z1.b)).setCell ⟨w.heap.size,3,none⟩ (.int .i64 z1.n)).setCell ⟨w.heap.size,4,none⟩ (.slice o4 n4 k4)).setCell ⟨w.heap.size,5,none⟩ (.slice o5 n5 k5)).setCell ⟨w.heap.size,6,none⟩ (.slice o6 n6 k6)) 7 (.string z2)) _ _ _ HL5s0s1s2s3s4s5s6k2s7s0s1s2s3s4s5s6.out)
    clear HL5s0s1s2s3s4s5s6k2s7s0s1s2s3s4s5s6
    have HL6s0s1s2s3s4s5s6k2s7s0s1s2s3s4s5s6s7:=hideR (AtS.keep (keep_set w ((((((((u2.setCell ⟨w.heap.size,7,none⟩ (.string z2)).setCell ⟨w.heap.size,0,none⟩ (.int .i64 z1.op)).setCell ⟨w.heap.size,1,none⟩ (.int .i64 z1.a)).setCell ⟨w.heap.size,2,none⟩ (.int .i64 z1.b)).setCell ⟨w.heap.size,3,none⟩ (.int .i64 z1.n)).setCell ⟨w.heap.size,4,none⟩ (.slice o4 n4 k4)).setCell ⟨w.heap.size,5,none⟩ (.slice o5 n5 k5)).setCell ⟨w.heap.size,6,none⟩ (.slice o6 n6 k6)) 7 (.string z2)) _ _ _ HL6s0s1s2s3s4s5s6k2s7s0s1s2s3s4s5s6.out)
    clear HL6s0s1s2s3s4s5s6k2s7s0s1s2s3s4s5s6
    have t0:=HT7.out.cell 0 _ rfl
    have t1:=HT7.out.cell 1 _ rfl
    have t2:=HT7.out.cell 2 _ rfl
    have t3:=HT7.out.cell 3 _ rfl
    have t4:=HT7.out.cell 4 _ rfl
    have t5:=HT7.out.cell 5 _ rfl
    have t6:=HT7.out.cell 6 _ rfl
    have t7:=HT7.out.cell 7 _ rfl
    have hz:R=.ok (⟨z1,z2⟩,q2):=by rw [HR.out];unfold rdat;simp only [bd_ok,bd_err,HX0.out,HX1.out,HX2.out,if_true,Bool.false_eq_true,if_false]
    rw [hz]
    exact bodyPost_ret (v:=.agg #[.int .i64 z1.op,.int .i64 z1.a,.int .i64 z1.b,.int .i64 z1.n,.slice o4 n4 k4,.slice o5 n5 k5,.slice o6 n6 k6,.string z2]) (by simp [results,Tryd.results39,go_sem,t0,t1,t2,t3,t4,t5,t6,t7]) rfl ⟨⟨_,rfl,_,_,_,_,_,_,_,_,_,rfl,[_,_,_,_,_,_,_],rfl,_,_,_,rfl,(IntsS.keep (keep_out w _) HL4s0s1s2s3s4s5s6k2s7s0s1s2s3s4s5s6s7.out),(AtS.keep (keep_out w _) _ _ _ HL5s0s1s2s3s4s5s6k2s7s0s1s2s3s4s5s6s7.out),(AtS.keep (keep_out w _) _ _ _ HL6s0s1s2s3s4s5s6k2s7s0s1s2s3s4s5s6s7.out)⟩,HT7.out.rs,HT7.out.but⟩
end
end Go.Proofs.YtgbbmdknbflilaaDoor

