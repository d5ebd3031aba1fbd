/- Texts that the claim needs. -/
import Derived.Test.YtmfcojpjpgldhaaGreatDoorQEBy41
import Derived.Test.YtmfcojpjpgldhaaGreatDoorQEBy5
namespace Go.Proofs.YtmfcojpjpgldhaaGreatDoor
open Go.RowKit aA Go.Proofs.Tryz
set_option linter.unusedVariables false
set_option maxHeartbeats 1000000
abbrev tY (f:FuncId) (op a b n:Int) (lo:Option Addr) (nl lc:Nat) (bo:Option Addr) (nb bc:Nat) (eo:Option Addr) (ne ec:Nat) (w:World) (Q:Ending->World->Prop):Prop:=Calls prog f #[.agg #[.int .i64 op,.int .i64 a,.int .i64 b,.int .i64 n,.slice lo nl lc,.slice bo nb bc,.slice eo ne ec]] w Q
theorem gQ {a b n:Int} {nl nb ne:Nat} (h:¬ (a=0/\b=0/\n=0/\nl=0/\nb=0/\ne=0)):bu a b n nl nb ne=false:=au h
theorem zf:idx 0=true:=by decide
def N9 (op f:Int):Prop:=f=9->op=65\/op=66
theorem aaA {op:Int} {p:Prop} [Decidable p] {x y:Int} (hx:p->N9 op x) (hy:¬ p->N9 op y):N9 op (if p then x else y):=by
 split
 ·next h=>exact hx h
 next h=>exact hy h
theorem aaB (op:Int) (h:form op=9):op=65\/op=66:=by
 have:N9 op (form op):=by
  unfold form
  repeat (refine aaA (λhp=>by intro hh;first|omega|(exfalso;revert hh;decide)) (λhn=>?_))
  intro hh;exact absurd hh (by decide)
 exact this h
theorem aaC (op a b n:Int) (ls:List Int) (lo bo eo:Option Addr) (nb ne lc bc ec:Nat) (w:World) (h:form op=0) (hl:Ints w (.slice lo ls.length lc) ls) :
  tY 115 op a b n lo (ls.length) lc bo nb bc eo ne ec w λe w'=>e=.returned (.bool (okF 0 op a b n ls nb ne))/\Below w.heap.size w w':=by
 exact Tj op a b n ls lo bo eo ls.length nb ne lc bc ec w h hl rfl
theorem aaD (op a b n:Int) (ls:List Int) (lo bo eo:Option Addr) (nb ne lc bc ec:Nat) (w:World) (h:form op=1) (hl:Ints w (.slice lo ls.length lc) ls) :
  tY 115 op a b n lo (ls.length) lc bo nb bc eo ne ec w λe w'=>e=.returned (.bool (okF 1 op a b n ls nb ne))/\Below w.heap.size w w':=by
 by_cases g0:a=0;rotate_left
 ·have e:okF 1 op a b n ls nb ne=false:=by
   show bu a b n ls.length nb ne=false;rw [gQ (by intro hh;exact g0 (by omega))];first|done|rfl|simp
  rw [e];exact Tk op a b n ls lo bo eo ls.length nb ne lc bc ec w h hl rfl  (by simp [g0])
 by_cases g1:b=0;rotate_left
 ·have e:okF 1 op a b n ls nb ne=false:=by
   show bu a b n ls.length nb ne=false;rw [gQ (by intro hh;exact g1 (by omega))];first|done|rfl|simp
  rw [e];exact Tm op a b n ls lo bo eo ls.length nb ne lc bc ec w h hl rfl (by simp [g0]) (by simp [g1])
 by_cases g2:n=0;rotate_left
 ·have e:okF 1 op a b n ls nb ne=false:=by
   show bu a b n ls.length nb ne=false;rw [gQ (by intro hh;exact g2 (by omega))];first|done|rfl|simp
  rw [e];exact Tn op a b n ls lo bo eo ls.length nb ne lc bc ec w h hl rfl (by simp [g0]) (by simp [g1]) (by simp [g2])
 by_cases g3:ls.length=0;rotate_left
 ·have e:okF 1 op a b n ls nb ne=false:=by
   show bu a b n ls.length nb ne=false;rw [gQ (by intro hh;exact g3 (by omega))];first|done|rfl|simp
  rw [e];exact Tp op a b n ls lo bo eo ls.length nb ne lc bc ec w h hl rfl (by simp [g0]) (by simp [g1]) (by simp [g2]) (by omega)
 by_cases g4:nb=0;rotate_left
 ·have e:okF 1 op a b n ls nb ne=false:=by
   show bu a b n ls.length nb ne=false;rw [gQ (by intro hh;exact g4 (by omega))];first|done|rfl|simp
  rw [e];exact Tq op a b n ls lo bo eo ls.length nb ne lc bc ec w h hl rfl (by simp [g0]) (by simp [g1]) (by simp [g2]) g3 (by omega)
 by_cases g5:ne=0;rotate_left
 ·have e:okF 1 op a b n ls nb ne=false:=by
   show bu a b n ls.length nb ne=false;rw [gQ (by intro hh;exact g5 (by omega))];first|done|rfl|simp
  rw [e];exact Tt op a b n ls lo bo eo ls.length nb ne lc bc ec w h hl rfl (by simp [g0]) (by simp [g1]) (by simp [g2]) g3 g4 (by omega)
 have eb:bu a b n ls.length nb ne=true:=aC (by omega);have ia:idx a=true:=by rw [show a=0 by omega];exact zf
 have ib:idx b=true:=by rw [show b=0 by omega];exact zf
 have il:ls.all idx=true:=by rw [mM.1 (by omega:ls.length=0)];rfl
 have hne:=AJ op (by rw [h];decide)
 have e:okF 1 op a b n ls nb ne=(idx a&&(idx b&&ls.all idx)):=by
  show bu a b n ls.length nb ne=_;rw [eb,ia,ib,il];first|done|rfl|simp|simp [xA]
 rw [e];exact Tu op a b n ls lo bo eo ls.length nb ne lc bc ec w h hl rfl (by simp [g0]) (by simp [g1]) (by simp [g2]) g3 g4 g5 hne.1
theorem aaE (op a b n:Int) (ls:List Int) (lo bo eo:Option Addr) (nb ne lc bc ec:Nat) (w:World) (h:form op=2) (hl:Ints w (.slice lo ls.length lc) ls) :
  tY 115 op a b n lo (ls.length) lc bo nb bc eo ne ec w λe w'=>e=.returned (.bool (okF 2 op a b n ls nb ne))/\Below w.heap.size w w':=by
 by_cases g0:b=0;rotate_left
 ·have e:okF 2 op a b n ls nb ne=false:=by
   show (res a&&bu 0 b n ls.length 0 ne)=false;rw [gQ (by intro hh;exact g0 (by omega))];first|done|rfl|simp
  rw [e];exact Tv op a b n ls lo bo eo ls.length nb ne lc bc ec w h hl rfl  (by simp [g0])
 by_cases g1:n=0;rotate_left
 ·have e:okF 2 op a b n ls nb ne=false:=by
   show (res a&&bu 0 b n ls.length 0 ne)=false;rw [gQ (by intro hh;exact g1 (by omega))];first|done|rfl|simp
  rw [e];exact Tw op a b n ls lo bo eo ls.length nb ne lc bc ec w h hl rfl (by simp [g0]) (by simp [g1])
 by_cases g2:ls.length=0;rotate_left
 ·have e:okF 2 op a b n ls nb ne=false:=by
   show (res a&&bu 0 b n ls.length 0 ne)=false;rw [gQ (by intro hh;exact g2 (by omega))];first|done|rfl|simp
  rw [e];exact Tx op a b n ls lo bo eo ls.length nb ne lc bc ec w h hl rfl (by simp [g0]) (by simp [g1]) (by omega)
 by_cases g3:ne=0;rotate_left
 ·have e:okF 2 op a b n ls nb ne=false:=by
   show (res a&&bu 0 b n ls.length 0 ne)=false;rw [gQ (by intro hh;exact g3 (by omega))];first|done|rfl|simp
  rw [e];exact Ty op a b n ls lo bo eo ls.length nb ne lc bc ec w h hl rfl (by simp [g0]) (by simp [g1]) g2 (by omega)
 have eb:bu 0 b n ls.length 0 ne=true:=aC (by omega)
 have e:okF 2 op a b n ls nb ne=res a:=by
  show (res a&&bu 0 b n ls.length 0 ne)=res a;rw [eb,Bool.and_true]
 rw [e];by_cases e1:a=0
 ·have er:res a=true:=by simp [res,e1]
  rw [er];exact Tz op a b n ls lo bo eo ls.length nb ne lc bc ec w h hl rfl (by simp [g0]) (by simp [g1]) g2 g3 (by simp [e1])
 by_cases e2:a=126
 ·have er:res a=true:=by simp [res,typ,e2]
  rw [er];exact TA op a b n ls lo bo eo ls.length nb ne lc bc ec w h hl rfl (by simp [g0]) (by simp [g1]) g2 g3 (by simp [e1]) (by simp [e2])
 have er:res a=(a==127):=by
  rw [Bool.eq_iff_iff];simp [res,typ,e1,e2]
 rw [er];exact TB op a b n ls lo bo eo ls.length nb ne lc bc ec w h hl rfl (by simp [g0]) (by simp [g1]) g2 g3 (by simp [e1]) (by simp [e2])
theorem aaF (op a b n:Int) (ls:List Int) (lo bo eo:Option Addr) (nb ne lc bc ec:Nat) (w:World) (h:form op=3) (hl:Ints w (.slice lo ls.length lc) ls) :
  tY 115 op a b n lo (ls.length) lc bo nb bc eo ne ec w λe w'=>e=.returned (.bool (okF 3 op a b n ls nb ne))/\Below w.heap.size w w':=by
 by_cases g0:b=0;rotate_left
 ·have e:okF 3 op a b n ls nb ne=false:=by
   show (res a&&bu 0 b n ls.length 0 0)=false;rw [gQ (by intro hh;exact g0 (by omega))];first|done|rfl|simp
  rw [e];exact TC op a b n ls lo bo eo ls.length nb ne lc bc ec w h hl rfl  (by simp [g0])
 by_cases g1:n=0;rotate_left
 ·have e:okF 3 op a b n ls nb ne=false:=by
   show (res a&&bu 0 b n ls.length 0 0)=false;rw [gQ (by intro hh;exact g1 (by omega))];first|done|rfl|simp
  rw [e];exact TD op a b n ls lo bo eo ls.length nb ne lc bc ec w h hl rfl (by simp [g0]) (by simp [g1])
 by_cases g2:ls.length=0;rotate_left
 ·have e:okF 3 op a b n ls nb ne=false:=by
   show (res a&&bu 0 b n ls.length 0 0)=false;rw [gQ (by intro hh;exact g2 (by omega))];first|done|rfl|simp
  rw [e];exact TE op a b n ls lo bo eo ls.length nb ne lc bc ec w h hl rfl (by simp [g0]) (by simp [g1]) (by omega)
 have eb:bu 0 b n ls.length 0 0=true:=aC (by omega)
 have e:okF 3 op a b n ls nb ne=res a:=by
  show (res a&&bu 0 b n ls.length 0 0)=res a;rw [eb,Bool.and_true]
 rw [e];by_cases e1:a=0
 ·have er:res a=true:=by simp [res,e1]
  rw [er];exact TF op a b n ls lo bo eo ls.length nb ne lc bc ec w h hl rfl (by simp [g0]) (by simp [g1]) g2 (by simp [e1])
 by_cases e2:a=126
 ·have er:res a=true:=by simp [res,typ,e2]
  rw [er];exact TG op a b n ls lo bo eo ls.length nb ne lc bc ec w h hl rfl (by simp [g0]) (by simp [g1]) g2 (by simp [e1]) (by simp [e2])
 have er:res a=(a==127):=by
  rw [Bool.eq_iff_iff];simp [res,typ,e1,e2]
 rw [er];exact TH op a b n ls lo bo eo ls.length nb ne lc bc ec w h hl rfl (by simp [g0]) (by simp [g1]) g2 (by simp [e1]) (by simp [e2])
theorem aaG (op a b n:Int) (ls:List Int) (lo bo eo:Option Addr) (nb ne lc bc ec:Nat) (w:World) (h:form op=4) (hl:Ints w (.slice lo ls.length lc) ls) :
  tY 115 op a b n lo (ls.length) lc bo nb bc eo ne ec w λe w'=>e=.returned (.bool (okF 4 op a b n ls nb ne))/\Below w.heap.size w w':=by
 by_cases g0:b=0;rotate_left
 ·have e:okF 4 op a b n ls nb ne=false:=by
   show (idx a&&bu 0 b n ls.length nb ne)=false;rw [gQ (by intro hh;exact g0 (by omega))];first|done|rfl|simp
  rw [e];exact TI op a b n ls lo bo eo ls.length nb ne lc bc ec w h hl rfl  (by simp [g0])
 by_cases g1:n=0;rotate_left
 ·have e:okF 4 op a b n ls nb ne=false:=by
   show (idx a&&bu 0 b n ls.length nb ne)=false;rw [gQ (by intro hh;exact g1 (by omega))];first|done|rfl|simp
  rw [e];exact TJ op a b n ls lo bo eo ls.length nb ne lc bc ec w h hl rfl (by simp [g0]) (by simp [g1])
 by_cases g2:ls.length=0;rotate_left
 ·have e:okF 4 op a b n ls nb ne=false:=by
   show (idx a&&bu 0 b n ls.length nb ne)=false;rw [gQ (by intro hh;exact g2 (by omega))];first|done|rfl|simp
  rw [e];exact TK op a b n ls lo bo eo ls.length nb ne lc bc ec w h hl rfl (by simp [g0]) (by simp [g1]) (by omega)
 by_cases g3:nb=0;rotate_left
 ·have e:okF 4 op a b n ls nb ne=false:=by
   show (idx a&&bu 0 b n ls.length nb ne)=false;rw [gQ (by intro hh;exact g3 (by omega))];first|done|rfl|simp
  rw [e];exact TL op a b n ls lo bo eo ls.length nb ne lc bc ec w h hl rfl (by simp [g0]) (by simp [g1]) g2 (by omega)
 by_cases g4:ne=0;rotate_left
 ·have e:okF 4 op a b n ls nb ne=false:=by
   show (idx a&&bu 0 b n ls.length nb ne)=false;rw [gQ (by intro hh;exact g4 (by omega))];first|done|rfl|simp
  rw [e];exact TM op a b n ls lo bo eo ls.length nb ne lc bc ec w h hl rfl (by simp [g0]) (by simp [g1]) g2 g3 (by omega)
 have eb:bu 0 b n ls.length nb ne=true:=aC (by omega);have ib:idx b=true:=by rw [show b=0 by omega];exact zf
 have il:ls.all idx=true:=by rw [mM.1 (by omega:ls.length=0)];rfl
 have hne:=AJ op (by rw [h];decide)
 have e:okF 4 op a b n ls nb ne=(idx a&&(idx b&&ls.all idx)):=by
  show (idx a&&bu 0 b n ls.length nb ne)=_;rw [eb,ib,il];first|done|rfl|simp|simp [xA]
 rw [e];exact TN op a b n ls lo bo eo ls.length nb ne lc bc ec w h hl rfl (by simp [g0]) (by simp [g1]) g2 g3 g4 hne.1
theorem aaH (op a b n:Int) (ls:List Int) (lo bo eo:Option Addr) (nb ne lc bc ec:Nat) (w:World) (h:form op=5) (hl:Ints w (.slice lo ls.length lc) ls) :
  tY 115 op a b n lo (ls.length) lc bo nb bc eo ne ec w λe w'=>e=.returned (.bool (okF 5 op a b n ls nb ne))/\Below w.heap.size w w':=by
 by_cases g0:b=0;rotate_left
 ·have e:okF 5 op a b n ls nb ne=false:=by
   show (idx a&&ls.all idx&&bu 0 b n 0 nb ne)=false;rw [gQ (by intro hh;exact g0 (by omega))];first|done|rfl|simp
  rw [e];exact TP op a b n ls lo bo eo ls.length nb ne lc bc ec w h hl rfl  (by simp [g0])
 by_cases g1:n=0;rotate_left
 ·have e:okF 5 op a b n ls nb ne=false:=by
   show (idx a&&ls.all idx&&bu 0 b n 0 nb ne)=false;rw [gQ (by intro hh;exact g1 (by omega))];first|done|rfl|simp
  rw [e];exact TQ op a b n ls lo bo eo ls.length nb ne lc bc ec w h hl rfl (by simp [g0]) (by simp [g1])
 by_cases g2:nb=0;rotate_left
 ·have e:okF 5 op a b n ls nb ne=false:=by
   show (idx a&&ls.all idx&&bu 0 b n 0 nb ne)=false;rw [gQ (by intro hh;exact g2 (by omega))];first|done|rfl|simp
  rw [e];exact TR op a b n ls lo bo eo ls.length nb ne lc bc ec w h hl rfl (by simp [g0]) (by simp [g1]) (by omega)
 by_cases g3:ne=0;rotate_left
 ·have e:okF 5 op a b n ls nb ne=false:=by
   show (idx a&&ls.all idx&&bu 0 b n 0 nb ne)=false;rw [gQ (by intro hh;exact g3 (by omega))];first|done|rfl|simp
  rw [e];exact TT op a b n ls lo bo eo ls.length nb ne lc bc ec w h hl rfl (by simp [g0]) (by simp [g1]) g2 (by omega)
 have eb:bu 0 b n 0 nb ne=true:=aC (by omega);have ib:idx b=true:=by rw [show b=0 by omega];exact zf
 have hne:=AJ op (by rw [h];decide)
 have e:okF 5 op a b n ls nb ne=(idx a&&(idx b&&ls.all idx)):=by
  show (idx a&&ls.all idx&&bu 0 b n 0 nb ne)=_;rw [eb,ib];first|done|rfl|simp|simp [xA]
 rw [e];exact TV op a b n ls lo bo eo ls.length nb ne lc bc ec w h hl rfl (by simp [g0]) (by simp [g1]) g2 g3 hne.1
theorem aaI (op a b n:Int) (ls:List Int) (lo bo eo:Option Addr) (nb ne lc bc ec:Nat) (w:World) (h:form op=6) (hl:Ints w (.slice lo ls.length lc) ls) :
  tY 115 op a b n lo (ls.length) lc bo nb bc eo ne ec w λe w'=>e=.returned (.bool (okF 6 op a b n ls nb ne))/\Below w.heap.size w w':=by
 by_cases g0:b=0;rotate_left
 ·have e:okF 6 op a b n ls nb ne=false:=by
   show (idx a&&bu 0 b n ls.length nb ne)=false;rw [gQ (by intro hh;exact g0 (by omega))];first|done|rfl|simp
  rw [e];exact TW op a b n ls lo bo eo ls.length nb ne lc bc ec w h hl rfl  (by simp [g0])
 by_cases g1:n=0;rotate_left
 ·have e:okF 6 op a b n ls nb ne=false:=by
   show (idx a&&bu 0 b n ls.length nb ne)=false;rw [gQ (by intro hh;exact g1 (by omega))];first|done|rfl|simp
  rw [e];exact TY op a b n ls lo bo eo ls.length nb ne lc bc ec w h hl rfl (by simp [g0]) (by simp [g1])
 by_cases g2:ls.length=0;rotate_left
 ·have e:okF 6 op a b n ls nb ne=false:=by
   show (idx a&&bu 0 b n ls.length nb ne)=false;rw [gQ (by intro hh;exact g2 (by omega))];first|done|rfl|simp
  rw [e];exact TZ op a b n ls lo bo eo ls.length nb ne lc bc ec w h hl rfl (by simp [g0]) (by simp [g1]) (by omega)
 by_cases g3:nb=0;rotate_left
 ·have e:okF 6 op a b n ls nb ne=false:=by
   show (idx a&&bu 0 b n ls.length nb ne)=false;rw [gQ (by intro hh;exact g3 (by omega))];first|done|rfl|simp
  rw [e];exact Ua op a b n ls lo bo eo ls.length nb ne lc bc ec w h hl rfl (by simp [g0]) (by simp [g1]) g2 (by omega)
 by_cases g4:ne=0;rotate_left
 ·have e:okF 6 op a b n ls nb ne=false:=by
   show (idx a&&bu 0 b n ls.length nb ne)=false;rw [gQ (by intro hh;exact g4 (by omega))];first|done|rfl|simp
  rw [e];exact Ub op a b n ls lo bo eo ls.length nb ne lc bc ec w h hl rfl (by simp [g0]) (by simp [g1]) g2 g3 (by omega)
 have eb:bu 0 b n ls.length nb ne=true:=aC (by omega);have ib:idx b=true:=by rw [show b=0 by omega];exact zf
 have il:ls.all idx=true:=by rw [mM.1 (by omega:ls.length=0)];rfl
 have hne:=AJ op (by rw [h];decide)
 have e:okF 6 op a b n ls nb ne=(idx a&&(idx b&&ls.all idx)):=by
  show (idx a&&bu 0 b n ls.length nb ne)=_;rw [eb,ib,il];first|done|rfl|simp|simp [xA]
 rw [e];exact Uc op a b n ls lo bo eo ls.length nb ne lc bc ec w h hl rfl (by simp [g0]) (by simp [g1]) g2 g3 g4 hne.1
theorem aaJ (op a b n:Int) (ls:List Int) (lo bo eo:Option Addr) (nb ne lc bc ec:Nat) (w:World) (h:form op=7) (hl:Ints w (.slice lo ls.length lc) ls) :
  tY 115 op a b n lo (ls.length) lc bo nb bc eo ne ec w λe w'=>e=.returned (.bool (okF 7 op a b n ls nb ne))/\Below w.heap.size w w':=by
 by_cases g0:b=0;rotate_left
 ·have e:okF 7 op a b n ls nb ne=false:=by
   show (idx a&&bu 0 b n ls.length nb ne)=false;rw [gQ (by intro hh;exact g0 (by omega))];first|done|rfl|simp
  rw [e];exact Ud op a b n ls lo bo eo ls.length nb ne lc bc ec w h hl rfl  (by simp [g0])
 by_cases g1:n=0;rotate_left
 ·have e:okF 7 op a b n ls nb ne=false:=by
   show (idx a&&bu 0 b n ls.length nb ne)=false;rw [gQ (by intro hh;exact g1 (by omega))];first|done|rfl|simp
  rw [e];exact Ue op a b n ls lo bo eo ls.length nb ne lc bc ec w h hl rfl (by simp [g0]) (by simp [g1])
 by_cases g2:ls.length=0;rotate_left
 ·have e:okF 7 op a b n ls nb ne=false:=by
   show (idx a&&bu 0 b n ls.length nb ne)=false;rw [gQ (by intro hh;exact g2 (by omega))];first|done|rfl|simp
  rw [e];exact Uf op a b n ls lo bo eo ls.length nb ne lc bc ec w h hl rfl (by simp [g0]) (by simp [g1]) (by omega)
 by_cases g3:nb=0;rotate_left
 ·have e:okF 7 op a b n ls nb ne=false:=by
   show (idx a&&bu 0 b n ls.length nb ne)=false;rw [gQ (by intro hh;exact g3 (by omega))];first|done|rfl|simp
  rw [e];exact Ug op a b n ls lo bo eo ls.length nb ne lc bc ec w h hl rfl (by simp [g0]) (by simp [g1]) g2 (by omega)
 by_cases g4:ne=0;rotate_left
 ·have e:okF 7 op a b n ls nb ne=false:=by
   show (idx a&&bu 0 b n ls.length nb ne)=false;rw [gQ (by intro hh;exact g4 (by omega))];first|done|rfl|simp
  rw [e];exact Uh op a b n ls lo bo eo ls.length nb ne lc bc ec w h hl rfl (by simp [g0]) (by simp [g1]) g2 g3 (by omega)
 have eb:bu 0 b n ls.length nb ne=true:=aC (by omega);have ib:idx b=true:=by rw [show b=0 by omega];exact zf
 have il:ls.all idx=true:=by rw [mM.1 (by omega:ls.length=0)];rfl
 have hne:=AJ op (by rw [h];decide)
 have e:okF 7 op a b n ls nb ne=(idx a&&(idx b&&ls.all idx)):=by
  show (idx a&&bu 0 b n ls.length nb ne)=_;rw [eb,ib,il];first|done|rfl|simp|simp [xA]
 rw [e];exact Ui op a b n ls lo bo eo ls.length nb ne lc bc ec w h hl rfl (by simp [g0]) (by simp [g1]) g2 g3 g4 hne.1
theorem aaK (op a b n:Int) (ls:List Int) (lo bo eo:Option Addr) (nb ne lc bc ec:Nat) (w:World) (h:form op=8) (hl:Ints w (.slice lo ls.length lc) ls) :
  tY 115 op a b n lo (ls.length) lc bo nb bc eo ne ec w λe w'=>e=.returned (.bool (okF 8 op a b n ls nb ne))/\Below w.heap.size w w':=by
 by_cases g0:n=0;rotate_left
 ·have e:okF 8 op a b n ls nb ne=false:=by
   show ((idx a&&idx b)&&bu 0 0 n ls.length nb ne)=false;rw [gQ (by intro hh;exact g0 (by omega))];first|done|rfl|simp
  rw [e];exact Uj op a b n ls lo bo eo ls.length nb ne lc bc ec w h hl rfl  (by simp [g0])
 by_cases g1:ls.length=0;rotate_left
 ·have e:okF 8 op a b n ls nb ne=false:=by
   show ((idx a&&idx b)&&bu 0 0 n ls.length nb ne)=false;rw [gQ (by intro hh;exact g1 (by omega))];first|done|rfl|simp
  rw [e];exact Uk op a b n ls lo bo eo ls.length nb ne lc bc ec w h hl rfl (by simp [g0]) (by omega)
 by_cases g2:nb=0;rotate_left
 ·have e:okF 8 op a b n ls nb ne=false:=by
   show ((idx a&&idx b)&&bu 0 0 n ls.length nb ne)=false;rw [gQ (by intro hh;exact g2 (by omega))];first|done|rfl|simp
  rw [e];exact Ul op a b n ls lo bo eo ls.length nb ne lc bc ec w h hl rfl (by simp [g0]) g1 (by omega)
 by_cases g3:ne=0;rotate_left
 ·have e:okF 8 op a b n ls nb ne=false:=by
   show ((idx a&&idx b)&&bu 0 0 n ls.length nb ne)=false;rw [gQ (by intro hh;exact g3 (by omega))];first|done|rfl|simp
  rw [e];exact Um op a b n ls lo bo eo ls.length nb ne lc bc ec w h hl rfl (by simp [g0]) g1 g2 (by omega)
 have eb:bu 0 0 n ls.length nb ne=true:=aC (by omega);have il:ls.all idx=true:=by rw [mM.1 (by omega:ls.length=0)];rfl
 have hne:=AJ op (by rw [h];decide)
 have e:okF 8 op a b n ls nb ne=(idx a&&(idx b&&ls.all idx)):=by
  show ((idx a&&idx b)&&bu 0 0 n ls.length nb ne)=_;rw [eb,il];first|done|rfl|simp|simp [xA]
 rw [e];exact Un op a b n ls lo bo eo ls.length nb ne lc bc ec w h hl rfl (by simp [g0]) g1 g2 g3 hne.1
theorem aaL (op a b n:Int) (ls:List Int) (lo bo eo:Option Addr) (nb ne lc bc ec:Nat) (w:World) (h:form op=9) (hl:Ints w (.slice lo ls.length lc) ls) :
  tY 115 op a b n lo (ls.length) lc bo nb bc eo ne ec w λe w'=>e=.returned (.bool (okF 9 op a b n ls nb ne))/\Below w.heap.size w w':=by
 by_cases g0:a=0;rotate_left
 ·have e:okF 9 op a b n ls nb ne=false:=by
   show ((op==66 || (decide (-2147483648<=n)&&decide (n<=2147483647)))&&bu a b 0 ls.length nb ne)=false;rw [gQ (by intro hh;exact g0 (by omega))];first|done|rfl|simp
  rw [e];exact Uo op a b n ls lo bo eo ls.length nb ne lc bc ec w h hl rfl  (by simp [g0])
 by_cases g1:b=0;rotate_left
 ·have e:okF 9 op a b n ls nb ne=false:=by
   show ((op==66 || (decide (-2147483648<=n)&&decide (n<=2147483647)))&&bu a b 0 ls.length nb ne)=false;rw [gQ (by intro hh;exact g1 (by omega))];first|done|rfl|simp
  rw [e];exact Uq op a b n ls lo bo eo ls.length nb ne lc bc ec w h hl rfl (by simp [g0]) (by simp [g1])
 by_cases g2:ls.length=0;rotate_left
 ·have e:okF 9 op a b n ls nb ne=false:=by
   show ((op==66 || (decide (-2147483648<=n)&&decide (n<=2147483647)))&&bu a b 0 ls.length nb ne)=false;rw [gQ (by intro hh;exact g2 (by omega))];first|done|rfl|simp
  rw [e];exact Ur op a b n ls lo bo eo ls.length nb ne lc bc ec w h hl rfl (by simp [g0]) (by simp [g1]) (by omega)
 by_cases g3:nb=0;rotate_left
 ·have e:okF 9 op a b n ls nb ne=false:=by
   show ((op==66 || (decide (-2147483648<=n)&&decide (n<=2147483647)))&&bu a b 0 ls.length nb ne)=false;rw [gQ (by intro hh;exact g3 (by omega))];first|done|rfl|simp
  rw [e];exact Us op a b n ls lo bo eo ls.length nb ne lc bc ec w h hl rfl (by simp [g0]) (by simp [g1]) g2 (by omega)
 by_cases g4:ne=0;rotate_left
 ·have e:okF 9 op a b n ls nb ne=false:=by
   show ((op==66 || (decide (-2147483648<=n)&&decide (n<=2147483647)))&&bu a b 0 ls.length nb ne)=false;rw [gQ (by intro hh;exact g4 (by omega))];first|done|rfl|simp
  rw [e];exact Ut op a b n ls lo bo eo ls.length nb ne lc bc ec w h hl rfl (by simp [g0]) (by simp [g1]) g2 g3 (by omega)
 have eb:bu a b 0 ls.length nb ne=true:=aC (by omega);have ia:idx a=true:=by rw [show a=0 by omega];exact zf
 have ib:idx b=true:=by rw [show b=0 by omega];exact zf
 have il:ls.all idx=true:=by rw [mM.1 (by omega:ls.length=0)];rfl
 have hR:(idx a&&(idx b&&ls.all idx))=true:=by rw [ia,ib,il];rfl
 by_cases s1:op=65
 ·have d1:(op==66)=false:=by simp [s1]
  by_cases s2:n < -2147483648
  ·have e:okF 9 op a b n ls nb ne=false:=by
    show ((op==66 || (decide (-2147483648<=n)&&decide (n<=2147483647)))&&bu a b 0 ls.length nb ne)=false;rw [d1,au (by omega:¬ (-2147483648<=n))];rfl
   rw [e];exact Uv op a b n ls lo bo eo ls.length nb ne lc bc ec w h hl rfl (by simp [g0]) (by simp [g1]) g2 g3 g4 s1 s2
  by_cases s3:2147483647<n
  ·have e:okF 9 op a b n ls nb ne=false:=by
    show ((op==66 || (decide (-2147483648<=n)&&decide (n<=2147483647)))&&bu a b 0 ls.length nb ne)=false;rw [d1,au (by omega:¬ (n<=2147483647)),Bool.and_false];rfl
   rw [e];exact Uw op a b n ls lo bo eo ls.length nb ne lc bc ec w h hl rfl (by simp [g0]) (by simp [g1]) g2 g3 g4 s1 (by omega) s3
  have e:okF 9 op a b n ls nb ne=(idx a&&(idx b&&ls.all idx)):=by
   show ((op==66 || (decide (-2147483648<=n)&&decide (n<=2147483647)))&&bu a b 0 ls.length nb ne)=_;rw [hR,eb,aC (by omega:-2147483648<=n),aC (by omega:n<=2147483647)];simp
  rw [e];exact Uy op a b n ls lo bo eo ls.length nb ne lc bc ec w h hl rfl (by simp [g0]) (by simp [g1]) g2 g3 g4 s1 (by omega) (by omega)
 have d1:(op==66)=true:=by
  rcases aaB op h with h1|h1
  ·exact absurd h1 s1
  simp [h1]
 have e:okF 9 op a b n ls nb ne=(idx a&&(idx b&&ls.all idx)):=by
  show ((op==66 || (decide (-2147483648<=n)&&decide (n<=2147483647)))&&bu a b 0 ls.length nb ne)=_;rw [hR,eb,d1];rfl
 rw [e];exact Uu op a b n ls lo bo eo ls.length nb ne lc bc ec w h hl rfl (by simp [g0]) (by simp [g1]) g2 g3 g4 s1
theorem aaM (op a b n:Int) (ls:List Int) (lo bo eo:Option Addr) (nb ne lc bc ec:Nat) (w:World) (h:form op=10) (hl:Ints w (.slice lo ls.length lc) ls) :
  tY 115 op a b n lo (ls.length) lc bo nb bc eo ne ec w λe w'=>e=.returned (.bool (okF 10 op a b n ls nb ne))/\Below w.heap.size w w':=by
 exact Uz op a b n ls lo bo eo ls.length nb ne lc bc ec w h hl rfl
theorem Ls (op a b n:Int) (ls:List Int) (lo bo eo:Option Addr) (nb ne lc bc ec:Nat) (w:World) (hl:Ints w (.slice lo ls.length lc) ls) :
  tY 115 op a b n lo (ls.length) lc bo nb bc eo ne ec w λe w'=>e=.returned (.bool (okF (form op) op a b n ls nb ne))/\Below w.heap.size w w':=by
 rcases Kt op with h|h|h|h|h|h|h|h|h|h|h
 ·rw [h];exact aaC op a b n ls lo bo eo nb ne lc bc ec w h hl
 ·rw [h];exact aaD op a b n ls lo bo eo nb ne lc bc ec w h hl
 ·rw [h];exact aaE op a b n ls lo bo eo nb ne lc bc ec w h hl
 ·rw [h];exact aaF op a b n ls lo bo eo nb ne lc bc ec w h hl
 ·rw [h];exact aaG op a b n ls lo bo eo nb ne lc bc ec w h hl
 ·rw [h];exact aaH op a b n ls lo bo eo nb ne lc bc ec w h hl
 ·rw [h];exact aaI op a b n ls lo bo eo nb ne lc bc ec w h hl
 ·rw [h];exact aaJ op a b n ls lo bo eo nb ne lc bc ec w h hl
 ·rw [h];exact aaK op a b n ls lo bo eo nb ne lc bc ec w h hl
 ·rw [h];exact aaL op a b n ls lo bo eo nb ne lc bc ec w h hl
 rw [h];exact aaM op a b n ls lo bo eo nb ne lc bc ec w h hl
namespace aA
def qh:(d:Nat)->IL d->Bool
 | 0,_=>true
 | d+1,l=>List.all (α:=Ins (IL d)) l λx=>rH (sn x)&&(qh d x.body&&qh d x.els)
def A8 (d:Nat) (x:Ins (IL d)):Bool:=rH (sn x)&&(qh d x.body&&qh d x.els)
end aA
theorem Lp (o:Option Addr) (cap:Nat) (w:World) :
  Calls prog 90 #[.slice o 0 cap] w λe w'=>e=.returned (.bool true)/\Below w.heap.size w w':=by
 go_enter func90,ntmps90;go_wp2_with fail;go_loopw [3] (λi wr=>i=.int .i64 0/\wr=w) (λ_ _=>0)
 case atStart=>exact ⟨rfl,rfl⟩
 case round =>
  obtain ⟨rfl,rfl⟩:=hrel;go_wp2;go_ret;exact ⟨rfl,Below.refl _ _⟩
def Lr (d:Nat):Prop:=∀(v:Value) (l:IL d) (w:World),At w d v l ->
  Calls prog 90 #[v] w λe w'=>e=.returned (.bool (qh d l))/\Below w.heap.size w w'
theorem U8 (d:Nat) (IH:Lr d) (v:Value) (l:List (Ins (IL d))) (w:World) (hAt:Row 7 (fA w (At w d)) v l) :
  Calls prog 90 #[v] w λe w'=>e=.returned (.bool (l.all (A8 d)))/\Below w.heap.size w w':=by
 have hlen:=hAt.1;by_cases hz:l.length=0
 ·obtain ⟨o,cap,rfl⟩:=hAt.len;rw [hz];obtain rfl:l = []:=mM.1 hz;exact Lp o cap w
 obtain ⟨b,off,cap,rfl,hx⟩:=hAt.some (by omega);obtain ⟨R,hR⟩:∃R,R=l.all (A8 d):=⟨_,rfl⟩;rw [<- hR];have HR:Hid (R=(l.drop 0).all (A8 d)):=hR;have HX:=ag hx;have dh:=ag IH;clear hx hAt hR IH;generalize hn:l.length=n at *;go_enter func90,ntmps90;go_wp2_with fail;go_loopw [3] (λi wr=>∃k:Nat,k<=n/\i=.int .i64 k/\Hid (R=(l.drop k).all (A8 d))/\Hid (Below w.heap.size w wr)) (λi _=>n-(RowKit.intOf i).toNat)
 case atStart=>exact ⟨0,by omega,rfl,HR,Below.refl _ _⟩
 case round =>
  obtain ⟨k,hk,rfl,HK,cK⟩:=hrel;by_cases hgo:k<n
  ·obtain ⟨x,hxk⟩:∃x,l[k]?=some x:=⟨_,aY (by omega)⟩;have hI:=(HX.out k x hxk).on cK.out (At.on cK.out d);obtain ⟨k0,k1,k2,k3,⟨lv,k4,a4⟩,⟨bv,k5,a5⟩,⟨ev,k6,a6⟩⟩:=hI;have HN:=ag (HK.out.trans (gK hxk rfl));have HP:Hid (A8 d x=(okF (form x.op) x.op x.a x.b x.n x.labels (size d x.body) (size d x.els)&&(qh d x.body&&qh d x.els))):=rfl;have I1:=ag λ(w':World) (h:Below wr.heap.size wr w')=>dh.out bv x.body w' (At.on h d _ _ a5);have I2:=ag λ(w':World) (h:Below wr.heap.size wr w')=>dh.out ev x.els w' (At.on h d _ _ a6);obtain ⟨lo,lc,rfl⟩:=Row.len a4;obtain ⟨bo,bc,rfl⟩:=At.len d bv x.body a5;obtain ⟨eo,ec,rfl⟩:=At.len d ev x.els a6;have I0:=ag (Ls x.op x.a x.b x.n x.labels lo bo eo (size d x.body) (size d x.els) lc bc ec wr a4);clear hxk a4 a5 a6 HK;generalize okF (form x.op) x.op x.a x.b x.n x.labels (size d x.body) (size d x.els)=r0 at *;generalize qh d x.body=r1 at *;generalize qh d x.els=r2 at *;generalize size d x.body=nb at *;generalize size d x.els=ne at *;generalize x.labels.length=nl at *;go_wp2_with fail;refine I0.out.mono ?_;rintro e w1 ⟨rfl,hb1⟩;have m5:=aj hb1 k5;have m6:=aj hb1 k6;have HB1:=ag hb1;clear hb1 k0 k1 k2 k3 k4 k5 k6;cases r0
   ·have HF:R=false:=by rw [HN.out,HP.out];rfl
    have qH:=ag HF;clear HF HN HP;go_wp2;go_ret;exact ⟨by rw [qH.out];rfl,db cK.out HB1.out⟩
   go_wp2_with fail;refine (I1.out _ HB1.out).mono ?_;rintro e w2 ⟨rfl,hb2⟩;have p6:=aj hb2 m6;have HB2:=ag (db HB1.out hb2);clear hb2 m5 m6;cases r1
   ·have HF:R=false:=by rw [HN.out,HP.out];rfl
    have qH:=ag HF;clear HF HN HP;go_wp2;go_ret;exact ⟨by rw [qH.out];rfl,db cK.out HB2.out⟩
   go_wp2_with fail;refine (I2.out _ HB2.out).mono ?_;rintro e w3 ⟨rfl,hb3⟩;have eX:=ag (db cK.out (db HB2.out hb3));clear hb3 p6;cases r2
   ·have HF:R=false:=by rw [HN.out,HP.out];rfl
    have qH:=ag HF;clear HF HN HP;go_wp2;go_ret;exact ⟨by rw [qH.out];rfl,eX.out⟩
   have HF:Hid (R=(l.drop (k+1)).all (A8 d)):=ag (by rw [HN.out,HP.out];rfl);clear HN HP;go_wp2;go_roundw
   case rel=>exact ⟨k+1,by omega,by go_num,HF,eX⟩
   case measure=>simp [RowKit.intOf];omega
  have HE:R=true:=oQ (by omega) HK.out;have kH:=ag HE;clear HE HK;go_wp2;go_ret;exact ⟨by rw [kH.out];rfl,cK.out⟩
theorem Lt:∀(d:Nat),Lr d
 | 0=>λv l w ⟨o,c,hv⟩=>by
  subst hv;exact Lp o c w
 | d+1=>λv l w hAt=>U8 d (Lt d) v l w hAt
theorem GM (op a b n:Int) (ls:List Int) (lo bo eo:Option Addr) (nb ne lc bc ec:Nat) (w:World) (hl:Ints w (.slice lo ls.length lc) ls) :
  Calls prog 91 #[.agg #[.int .i64 op,.int .i64 a,.int .i64 b,.int .i64 n,.slice lo ls.length lc,.slice bo nb bc,.slice eo ne ec]] w λe w'=>e=.returned (.bool (qf op&&okF (form op) op a b n ls nb ne))/\Below w.heap.size w w':=by
 have HO:=ag λ(w':World) (h:Below w.heap.size w w')=>Ls op a b n ls lo bo eo nb ne lc bc ec w' (hl.on h);clear hl;generalize okF (form op) op a b n ls nb ne=r at *;generalize ls.length=nl at *;unfold qf;have hw:=ag λ(o:Obj)=>(Below.refl w.heap.size w).alloc (aI _) o;cases h1:op==65
 ·cases h2:op==66
  ·cases h3:op==35
   ·go_enter func91,ntmps91;go_wp2;go_ret;exact ⟨rfl,hw.out _⟩
   go_enter func91,ntmps91;go_wp2_with fail;refine (HO.out _ (hw.out _)).mono ?_;rintro e u ⟨rfl,hb⟩;go_wp2;go_ret;exact ⟨rfl,db (hw.out _) hb⟩
  go_enter func91,ntmps91;go_wp2_with fail;refine (HO.out _ (hw.out _)).mono ?_;rintro e u ⟨rfl,hb⟩;go_wp2;go_ret;exact ⟨rfl,db (hw.out _) hb⟩
 go_enter func91,ntmps91;go_wp2_with fail;refine (HO.out _ (hw.out _)).mono ?_;rintro e u ⟨rfl,hb⟩;go_wp2;go_ret;exact ⟨rfl,db (hw.out _) hb⟩
end Go.Proofs.YtmfcojpjpgldhaaGreatDoor
