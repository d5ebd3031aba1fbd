/- Texts that the claim needs. -/
import Derived.Test.YtcfifbgemfladaaGreatDoorQDPa41
import Derived.Test.YtcfifbgemfladaaGreatDoorQDPa4
namespace Go.Proofs.YtcfifbgemfladaaGreatDoor
open Go.RowKit au Go.Proofs.Tryz
set_option linter.unusedVariables false
set_option maxHeartbeats 1000000
abbrev uR (f:FuncId) (op a b n:Int) (lo:Option Addr) (nl lc:Nat) (bo:Option Addr) (nb bc:Nat) (eo:Option Addr) (ne ec:Nat) (w:AG) (Q:Ending->AG->Prop):Prop:=Calls prog f #[.agg #[.int .i64 op,.int .i64 a,.int .i64 b,.int .i64 n,.slice lo nl lc,.slice bo nb bc,.slice eo ne ec]] w Q
theorem fR {a b n:Int} {nl nb ne:Nat} (h:¬ (a=0/\b=0/\n=0/\nl=0/\nb=0/\ne=0)):bV a b n nl nb ne=false:=aj h
theorem zT:idx 0=true:=by decide
def N9 (op f:Int):Prop:=f=9->op=65\/op=66
theorem ae3 {op:Int} {p:Prop} [Decidable p] {x y:Int} (hx:p->N9 op x) (hy:¬ p->N9 op y):N9 op (if p then x else y):=by
 split
 ·next h=>exact hx h
 next h=>exact hy h
theorem ae4 (op:Int) (h:form op=9):op=65\/op=66:=by
 have:N9 op (form op):=by
  unfold form
  repeat (refine ae3 (λhp=>by intro hh;first|omega|(exfalso;revert hh;decide)) (λhn=>?_))
  intro hh;exact absurd hh (by decide)
 exact this h
theorem ae5 (op a b n:Int) (ls:List Int) (lo bo eo:Option Addr) (nb ne lc bc ec:Nat) (w:AG) (h:form op=0) (hl:Ints w (.slice lo ls.length lc) ls) :
  uR 89 op a b n lo (ls.length) lc bo nb bc eo ne ec w λe w'=>e=.returned (.bool (okF 0 op a b n ls nb ne))/\AS w w':=by
 exact Yf op a b n ls lo bo eo ls.length nb ne lc bc ec w h hl rfl
theorem ae6 (op a b n:Int) (ls:List Int) (lo bo eo:Option Addr) (nb ne lc bc ec:Nat) (w:AG) (h:form op=1) (hl:Ints w (.slice lo ls.length lc) ls) :
  uR 89 op a b n lo (ls.length) lc bo nb bc eo ne ec w λe w'=>e=.returned (.bool (okF 1 op a b n ls nb ne))/\AS w w':=by
 by_cases g0:a=0;rotate_left
 ·have e:okF 1 op a b n ls nb ne=false:=by
   show bV a b n ls.length nb ne=false;rw [fR (by intro hh;exact g0 (by omega))];first|done|rfl|simp
  rw [e];exact Yg op a b n ls lo bo eo ls.length nb ne lc bc ec w h hl rfl  (by simp [g0])
 by_cases g1:b=0;rotate_left
 ·have e:okF 1 op a b n ls nb ne=false:=by
   show bV a b n ls.length nb ne=false;rw [fR (by intro hh;exact g1 (by omega))];first|done|rfl|simp
  rw [e];exact Yh op a b n ls lo bo eo ls.length nb ne lc bc ec w h hl rfl (by simp [g0]) (by simp [g1])
 by_cases g2:n=0;rotate_left
 ·have e:okF 1 op a b n ls nb ne=false:=by
   show bV a b n ls.length nb ne=false;rw [fR (by intro hh;exact g2 (by omega))];first|done|rfl|simp
  rw [e];exact Yi op a b n ls lo bo eo ls.length nb ne lc bc ec w h hl rfl (by simp [g0]) (by simp [g1]) (by simp [g2])
 by_cases g3:ls.length=0;rotate_left
 ·have e:okF 1 op a b n ls nb ne=false:=by
   show bV a b n ls.length nb ne=false;rw [fR (by intro hh;exact g3 (by omega))];first|done|rfl|simp
  rw [e];exact Yj op a b n ls lo bo eo ls.length nb ne lc bc ec w h hl rfl (by simp [g0]) (by simp [g1]) (by simp [g2]) (by omega)
 by_cases g4:nb=0;rotate_left
 ·have e:okF 1 op a b n ls nb ne=false:=by
   show bV a b n ls.length nb ne=false;rw [fR (by intro hh;exact g4 (by omega))];first|done|rfl|simp
  rw [e];exact Yk op a b n ls lo bo eo ls.length nb ne lc bc ec w h hl rfl (by simp [g0]) (by simp [g1]) (by simp [g2]) g3 (by omega)
 by_cases g5:ne=0;rotate_left
 ·have e:okF 1 op a b n ls nb ne=false:=by
   show bV a b n ls.length nb ne=false;rw [fR (by intro hh;exact g5 (by omega))];first|done|rfl|simp
  rw [e];exact Yl op a b n ls lo bo eo ls.length nb ne lc bc ec w h hl rfl (by simp [g0]) (by simp [g1]) (by simp [g2]) g3 g4 (by omega)
 have eb:bV a b n ls.length nb ne=true:=ay;have ia:idx a=true:=by rw [show a=0 by omega];exact zT
 have ib:idx b=true:=by rw [show b=0 by omega];exact zT
 have il:ls.all idx=true:=by rw [iZ.1 (by omega:ls.length=0)];rfl
 have hne:=BZ op (by rw [h];decide)
 have e:okF 1 op a b n ls nb ne=(idx a&&(idx b&&ls.all idx)):=by
  show bV a b n ls.length nb ne=_;rw [eb,ia,ib,il];first|done|rfl|simp|simp [yh]
 rw [e];exact Ym op a b n ls lo bo eo ls.length nb ne lc bc ec w h hl rfl (by simp [g0]) (by simp [g1]) (by simp [g2]) g3 g4 g5 hne.1
theorem ae7 (op a b n:Int) (ls:List Int) (lo bo eo:Option Addr) (nb ne lc bc ec:Nat) (w:AG) (h:form op=2) (hl:Ints w (.slice lo ls.length lc) ls) :
  uR 89 op a b n lo (ls.length) lc bo nb bc eo ne ec w λe w'=>e=.returned (.bool (okF 2 op a b n ls nb ne))/\AS w w':=by
 by_cases g0:b=0;rotate_left
 ·have e:okF 2 op a b n ls nb ne=false:=by
   show (res a&&bV 0 b n ls.length 0 ne)=false;rw [fR (by intro hh;exact g0 (by omega))];first|done|rfl|simp
  rw [e];exact Yn op a b n ls lo bo eo ls.length nb ne lc bc ec w h hl rfl  (by simp [g0])
 by_cases g1:n=0;rotate_left
 ·have e:okF 2 op a b n ls nb ne=false:=by
   show (res a&&bV 0 b n ls.length 0 ne)=false;rw [fR (by intro hh;exact g1 (by omega))];first|done|rfl|simp
  rw [e];exact Yo op a b n ls lo bo eo ls.length nb ne lc bc ec w h hl rfl (by simp [g0]) (by simp [g1])
 by_cases g2:ls.length=0;rotate_left
 ·have e:okF 2 op a b n ls nb ne=false:=by
   show (res a&&bV 0 b n ls.length 0 ne)=false;rw [fR (by intro hh;exact g2 (by omega))];first|done|rfl|simp
  rw [e];exact Yp op a b n ls lo bo eo ls.length nb ne lc bc ec w h hl rfl (by simp [g0]) (by simp [g1]) (by omega)
 by_cases g3:ne=0;rotate_left
 ·have e:okF 2 op a b n ls nb ne=false:=by
   show (res a&&bV 0 b n ls.length 0 ne)=false;rw [fR (by intro hh;exact g3 (by omega))];first|done|rfl|simp
  rw [e];exact Yq op a b n ls lo bo eo ls.length nb ne lc bc ec w h hl rfl (by simp [g0]) (by simp [g1]) g2 (by omega)
 have eb:bV 0 b n ls.length 0 ne=true:=ay
 have e:okF 2 op a b n ls nb ne=res a:=by
  show (res a&&bV 0 b n ls.length 0 ne)=res a;rw [eb,Bool.and_true]
 rw [e];by_cases e1:a=0
 ·have er:res a=true:=by simp [res,e1]
  rw [er];exact Yr op a b n ls lo bo eo ls.length nb ne lc bc ec w h hl rfl (by simp [g0]) (by simp [g1]) g2 g3 (by simp [e1])
 by_cases e2:a=126
 ·have er:res a=true:=by simp [res,typ,e2]
  rw [er];exact Yt op a b n ls lo bo eo ls.length nb ne lc bc ec w h hl rfl (by simp [g0]) (by simp [g1]) g2 g3 (by simp [e1]) (by simp [e2])
 have er:res a=(a==127):=by
  rw [Bool.eq_iff_iff];simp [res,typ,e1,e2]
 rw [er];exact Yu op a b n ls lo bo eo ls.length nb ne lc bc ec w h hl rfl (by simp [g0]) (by simp [g1]) g2 g3 (by simp [e1]) (by simp [e2])
theorem ae8 (op a b n:Int) (ls:List Int) (lo bo eo:Option Addr) (nb ne lc bc ec:Nat) (w:AG) (h:form op=3) (hl:Ints w (.slice lo ls.length lc) ls) :
  uR 89 op a b n lo (ls.length) lc bo nb bc eo ne ec w λe w'=>e=.returned (.bool (okF 3 op a b n ls nb ne))/\AS w w':=by
 by_cases g0:b=0;rotate_left
 ·have e:okF 3 op a b n ls nb ne=false:=by
   show (res a&&bV 0 b n ls.length 0 0)=false;rw [fR (by intro hh;exact g0 (by omega))];first|done|rfl|simp
  rw [e];exact Yv op a b n ls lo bo eo ls.length nb ne lc bc ec w h hl rfl  (by simp [g0])
 by_cases g1:n=0;rotate_left
 ·have e:okF 3 op a b n ls nb ne=false:=by
   show (res a&&bV 0 b n ls.length 0 0)=false;rw [fR (by intro hh;exact g1 (by omega))];first|done|rfl|simp
  rw [e];exact Yw op a b n ls lo bo eo ls.length nb ne lc bc ec w h hl rfl (by simp [g0]) (by simp [g1])
 by_cases g2:ls.length=0;rotate_left
 ·have e:okF 3 op a b n ls nb ne=false:=by
   show (res a&&bV 0 b n ls.length 0 0)=false;rw [fR (by intro hh;exact g2 (by omega))];first|done|rfl|simp
  rw [e];exact Yx op a b n ls lo bo eo ls.length nb ne lc bc ec w h hl rfl (by simp [g0]) (by simp [g1]) (by omega)
 have eb:bV 0 b n ls.length 0 0=true:=ay
 have e:okF 3 op a b n ls nb ne=res a:=by
  show (res a&&bV 0 b n ls.length 0 0)=res a;rw [eb,Bool.and_true]
 rw [e];by_cases e1:a=0
 ·have er:res a=true:=by simp [res,e1]
  rw [er];exact Yy op a b n ls lo bo eo ls.length nb ne lc bc ec w h hl rfl (by simp [g0]) (by simp [g1]) g2 (by simp [e1])
 by_cases e2:a=126
 ·have er:res a=true:=by simp [res,typ,e2]
  rw [er];exact Yz op a b n ls lo bo eo ls.length nb ne lc bc ec w h hl rfl (by simp [g0]) (by simp [g1]) g2 (by simp [e1]) (by simp [e2])
 have er:res a=(a==127):=by
  rw [Bool.eq_iff_iff];simp [res,typ,e1,e2]
 rw [er];exact YA op a b n ls lo bo eo ls.length nb ne lc bc ec w h hl rfl (by simp [g0]) (by simp [g1]) g2 (by simp [e1]) (by simp [e2])
theorem ae9 (op a b n:Int) (ls:List Int) (lo bo eo:Option Addr) (nb ne lc bc ec:Nat) (w:AG) (h:form op=4) (hl:Ints w (.slice lo ls.length lc) ls) :
  uR 89 op a b n lo (ls.length) lc bo nb bc eo ne ec w λe w'=>e=.returned (.bool (okF 4 op a b n ls nb ne))/\AS w w':=by
 by_cases g0:b=0;rotate_left
 ·have e:okF 4 op a b n ls nb ne=false:=by
   show (idx a&&bV 0 b n ls.length nb ne)=false;rw [fR (by intro hh;exact g0 (by omega))];first|done|rfl|simp
  rw [e];exact YB op a b n ls lo bo eo ls.length nb ne lc bc ec w h hl rfl  (by simp [g0])
 by_cases g1:n=0;rotate_left
 ·have e:okF 4 op a b n ls nb ne=false:=by
   show (idx a&&bV 0 b n ls.length nb ne)=false;rw [fR (by intro hh;exact g1 (by omega))];first|done|rfl|simp
  rw [e];exact YC op a b n ls lo bo eo ls.length nb ne lc bc ec w h hl rfl (by simp [g0]) (by simp [g1])
 by_cases g2:ls.length=0;rotate_left
 ·have e:okF 4 op a b n ls nb ne=false:=by
   show (idx a&&bV 0 b n ls.length nb ne)=false;rw [fR (by intro hh;exact g2 (by omega))];first|done|rfl|simp
  rw [e];exact YD op a b n ls lo bo eo ls.length nb ne lc bc ec w h hl rfl (by simp [g0]) (by simp [g1]) (by omega)
 by_cases g3:nb=0;rotate_left
 ·have e:okF 4 op a b n ls nb ne=false:=by
   show (idx a&&bV 0 b n ls.length nb ne)=false;rw [fR (by intro hh;exact g3 (by omega))];first|done|rfl|simp
  rw [e];exact YE op a b n ls lo bo eo ls.length nb ne lc bc ec w h hl rfl (by simp [g0]) (by simp [g1]) g2 (by omega)
 by_cases g4:ne=0;rotate_left
 ·have e:okF 4 op a b n ls nb ne=false:=by
   show (idx a&&bV 0 b n ls.length nb ne)=false;rw [fR (by intro hh;exact g4 (by omega))];first|done|rfl|simp
  rw [e];exact YF op a b n ls lo bo eo ls.length nb ne lc bc ec w h hl rfl (by simp [g0]) (by simp [g1]) g2 g3 (by omega)
 have eb:bV 0 b n ls.length nb ne=true:=ay;have ib:idx b=true:=by rw [show b=0 by omega];exact zT
 have il:ls.all idx=true:=by rw [iZ.1 (by omega:ls.length=0)];rfl
 have hne:=BZ op (by rw [h];decide)
 have e:okF 4 op a b n ls nb ne=(idx a&&(idx b&&ls.all idx)):=by
  show (idx a&&bV 0 b n ls.length nb ne)=_;rw [eb,ib,il];first|done|rfl|simp|simp [yh]
 rw [e];exact YG op a b n ls lo bo eo ls.length nb ne lc bc ec w h hl rfl (by simp [g0]) (by simp [g1]) g2 g3 g4 hne.1
theorem afa (op a b n:Int) (ls:List Int) (lo bo eo:Option Addr) (nb ne lc bc ec:Nat) (w:AG) (h:form op=5) (hl:Ints w (.slice lo ls.length lc) ls) :
  uR 89 op a b n lo (ls.length) lc bo nb bc eo ne ec w λe w'=>e=.returned (.bool (okF 5 op a b n ls nb ne))/\AS w w':=by
 by_cases g0:b=0;rotate_left
 ·have e:okF 5 op a b n ls nb ne=false:=by
   show (idx a&&ls.all idx&&bV 0 b n 0 nb ne)=false;rw [fR (by intro hh;exact g0 (by omega))];first|done|rfl|simp
  rw [e];exact YH op a b n ls lo bo eo ls.length nb ne lc bc ec w h hl rfl  (by simp [g0])
 by_cases g1:n=0;rotate_left
 ·have e:okF 5 op a b n ls nb ne=false:=by
   show (idx a&&ls.all idx&&bV 0 b n 0 nb ne)=false;rw [fR (by intro hh;exact g1 (by omega))];first|done|rfl|simp
  rw [e];exact YI op a b n ls lo bo eo ls.length nb ne lc bc ec w h hl rfl (by simp [g0]) (by simp [g1])
 by_cases g2:nb=0;rotate_left
 ·have e:okF 5 op a b n ls nb ne=false:=by
   show (idx a&&ls.all idx&&bV 0 b n 0 nb ne)=false;rw [fR (by intro hh;exact g2 (by omega))];first|done|rfl|simp
  rw [e];exact YJ op a b n ls lo bo eo ls.length nb ne lc bc ec w h hl rfl (by simp [g0]) (by simp [g1]) (by omega)
 by_cases g3:ne=0;rotate_left
 ·have e:okF 5 op a b n ls nb ne=false:=by
   show (idx a&&ls.all idx&&bV 0 b n 0 nb ne)=false;rw [fR (by intro hh;exact g3 (by omega))];first|done|rfl|simp
  rw [e];exact YK op a b n ls lo bo eo ls.length nb ne lc bc ec w h hl rfl (by simp [g0]) (by simp [g1]) g2 (by omega)
 have eb:bV 0 b n 0 nb ne=true:=ay;have ib:idx b=true:=by rw [show b=0 by omega];exact zT
 have hne:=BZ op (by rw [h];decide)
 have e:okF 5 op a b n ls nb ne=(idx a&&(idx b&&ls.all idx)):=by
  show (idx a&&ls.all idx&&bV 0 b n 0 nb ne)=_;rw [eb,ib];first|done|rfl|simp|simp [yh]
 rw [e];exact YL op a b n ls lo bo eo ls.length nb ne lc bc ec w h hl rfl (by simp [g0]) (by simp [g1]) g2 g3 hne.1
theorem afb (op a b n:Int) (ls:List Int) (lo bo eo:Option Addr) (nb ne lc bc ec:Nat) (w:AG) (h:form op=6) (hl:Ints w (.slice lo ls.length lc) ls) :
  uR 89 op a b n lo (ls.length) lc bo nb bc eo ne ec w λe w'=>e=.returned (.bool (okF 6 op a b n ls nb ne))/\AS w w':=by
 by_cases g0:b=0;rotate_left
 ·have e:okF 6 op a b n ls nb ne=false:=by
   show (idx a&&bV 0 b n ls.length nb ne)=false;rw [fR (by intro hh;exact g0 (by omega))];first|done|rfl|simp
  rw [e];exact YM op a b n ls lo bo eo ls.length nb ne lc bc ec w h hl rfl  (by simp [g0])
 by_cases g1:n=0;rotate_left
 ·have e:okF 6 op a b n ls nb ne=false:=by
   show (idx a&&bV 0 b n ls.length nb ne)=false;rw [fR (by intro hh;exact g1 (by omega))];first|done|rfl|simp
  rw [e];exact YN op a b n ls lo bo eo ls.length nb ne lc bc ec w h hl rfl (by simp [g0]) (by simp [g1])
 by_cases g2:ls.length=0;rotate_left
 ·have e:okF 6 op a b n ls nb ne=false:=by
   show (idx a&&bV 0 b n ls.length nb ne)=false;rw [fR (by intro hh;exact g2 (by omega))];first|done|rfl|simp
  rw [e];exact YO op a b n ls lo bo eo ls.length nb ne lc bc ec w h hl rfl (by simp [g0]) (by simp [g1]) (by omega)
 by_cases g3:nb=0;rotate_left
 ·have e:okF 6 op a b n ls nb ne=false:=by
   show (idx a&&bV 0 b n ls.length nb ne)=false;rw [fR (by intro hh;exact g3 (by omega))];first|done|rfl|simp
  rw [e];exact YP op a b n ls lo bo eo ls.length nb ne lc bc ec w h hl rfl (by simp [g0]) (by simp [g1]) g2 (by omega)
 by_cases g4:ne=0;rotate_left
 ·have e:okF 6 op a b n ls nb ne=false:=by
   show (idx a&&bV 0 b n ls.length nb ne)=false;rw [fR (by intro hh;exact g4 (by omega))];first|done|rfl|simp
  rw [e];exact YQ op a b n ls lo bo eo ls.length nb ne lc bc ec w h hl rfl (by simp [g0]) (by simp [g1]) g2 g3 (by omega)
 have eb:bV 0 b n ls.length nb ne=true:=ay;have ib:idx b=true:=by rw [show b=0 by omega];exact zT
 have il:ls.all idx=true:=by rw [iZ.1 (by omega:ls.length=0)];rfl
 have hne:=BZ op (by rw [h];decide)
 have e:okF 6 op a b n ls nb ne=(idx a&&(idx b&&ls.all idx)):=by
  show (idx a&&bV 0 b n ls.length nb ne)=_;rw [eb,ib,il];first|done|rfl|simp|simp [yh]
 rw [e];exact YR op a b n ls lo bo eo ls.length nb ne lc bc ec w h hl rfl (by simp [g0]) (by simp [g1]) g2 g3 g4 hne.1
theorem afc (op a b n:Int) (ls:List Int) (lo bo eo:Option Addr) (nb ne lc bc ec:Nat) (w:AG) (h:form op=7) (hl:Ints w (.slice lo ls.length lc) ls) :
  uR 89 op a b n lo (ls.length) lc bo nb bc eo ne ec w λe w'=>e=.returned (.bool (okF 7 op a b n ls nb ne))/\AS w w':=by
 by_cases g0:b=0;rotate_left
 ·have e:okF 7 op a b n ls nb ne=false:=by
   show (idx a&&bV 0 b n ls.length nb ne)=false;rw [fR (by intro hh;exact g0 (by omega))];first|done|rfl|simp
  rw [e];exact YS op a b n ls lo bo eo ls.length nb ne lc bc ec w h hl rfl  (by simp [g0])
 by_cases g1:n=0;rotate_left
 ·have e:okF 7 op a b n ls nb ne=false:=by
   show (idx a&&bV 0 b n ls.length nb ne)=false;rw [fR (by intro hh;exact g1 (by omega))];first|done|rfl|simp
  rw [e];exact YT op a b n ls lo bo eo ls.length nb ne lc bc ec w h hl rfl (by simp [g0]) (by simp [g1])
 by_cases g2:ls.length=0;rotate_left
 ·have e:okF 7 op a b n ls nb ne=false:=by
   show (idx a&&bV 0 b n ls.length nb ne)=false;rw [fR (by intro hh;exact g2 (by omega))];first|done|rfl|simp
  rw [e];exact YU op a b n ls lo bo eo ls.length nb ne lc bc ec w h hl rfl (by simp [g0]) (by simp [g1]) (by omega)
 by_cases g3:nb=0;rotate_left
 ·have e:okF 7 op a b n ls nb ne=false:=by
   show (idx a&&bV 0 b n ls.length nb ne)=false;rw [fR (by intro hh;exact g3 (by omega))];first|done|rfl|simp
  rw [e];exact YV op a b n ls lo bo eo ls.length nb ne lc bc ec w h hl rfl (by simp [g0]) (by simp [g1]) g2 (by omega)
 by_cases g4:ne=0;rotate_left
 ·have e:okF 7 op a b n ls nb ne=false:=by
   show (idx a&&bV 0 b n ls.length nb ne)=false;rw [fR (by intro hh;exact g4 (by omega))];first|done|rfl|simp
  rw [e];exact YW op a b n ls lo bo eo ls.length nb ne lc bc ec w h hl rfl (by simp [g0]) (by simp [g1]) g2 g3 (by omega)
 have eb:bV 0 b n ls.length nb ne=true:=ay;have ib:idx b=true:=by rw [show b=0 by omega];exact zT
 have il:ls.all idx=true:=by rw [iZ.1 (by omega:ls.length=0)];rfl
 have hne:=BZ op (by rw [h];decide)
 have e:okF 7 op a b n ls nb ne=(idx a&&(idx b&&ls.all idx)):=by
  show (idx a&&bV 0 b n ls.length nb ne)=_;rw [eb,ib,il];first|done|rfl|simp|simp [yh]
 rw [e];exact YX op a b n ls lo bo eo ls.length nb ne lc bc ec w h hl rfl (by simp [g0]) (by simp [g1]) g2 g3 g4 hne.1
theorem afd (op a b n:Int) (ls:List Int) (lo bo eo:Option Addr) (nb ne lc bc ec:Nat) (w:AG) (h:form op=8) (hl:Ints w (.slice lo ls.length lc) ls) :
  uR 89 op a b n lo (ls.length) lc bo nb bc eo ne ec w λe w'=>e=.returned (.bool (okF 8 op a b n ls nb ne))/\AS w w':=by
 by_cases g0:n=0;rotate_left
 ·have e:okF 8 op a b n ls nb ne=false:=by
   show ((idx a&&idx b)&&bV 0 0 n ls.length nb ne)=false;rw [fR (by intro hh;exact g0 (by omega))];first|done|rfl|simp
  rw [e];exact YY op a b n ls lo bo eo ls.length nb ne lc bc ec w h hl rfl  (by simp [g0])
 by_cases g1:ls.length=0;rotate_left
 ·have e:okF 8 op a b n ls nb ne=false:=by
   show ((idx a&&idx b)&&bV 0 0 n ls.length nb ne)=false;rw [fR (by intro hh;exact g1 (by omega))];first|done|rfl|simp
  rw [e];exact YZ op a b n ls lo bo eo ls.length nb ne lc bc ec w h hl rfl (by simp [g0]) (by omega)
 by_cases g2:nb=0;rotate_left
 ·have e:okF 8 op a b n ls nb ne=false:=by
   show ((idx a&&idx b)&&bV 0 0 n ls.length nb ne)=false;rw [fR (by intro hh;exact g2 (by omega))];first|done|rfl|simp
  rw [e];exact Y0 op a b n ls lo bo eo ls.length nb ne lc bc ec w h hl rfl (by simp [g0]) g1 (by omega)
 by_cases g3:ne=0;rotate_left
 ·have e:okF 8 op a b n ls nb ne=false:=by
   show ((idx a&&idx b)&&bV 0 0 n ls.length nb ne)=false;rw [fR (by intro hh;exact g3 (by omega))];first|done|rfl|simp
  rw [e];exact Y1 op a b n ls lo bo eo ls.length nb ne lc bc ec w h hl rfl (by simp [g0]) g1 g2 (by omega)
 have eb:bV 0 0 n ls.length nb ne=true:=ay;have il:ls.all idx=true:=by rw [iZ.1 (by omega:ls.length=0)];rfl
 have hne:=BZ op (by rw [h];decide)
 have e:okF 8 op a b n ls nb ne=(idx a&&(idx b&&ls.all idx)):=by
  show ((idx a&&idx b)&&bV 0 0 n ls.length nb ne)=_;rw [eb,il];first|done|rfl|simp|simp [yh]
 rw [e];exact Y2 op a b n ls lo bo eo ls.length nb ne lc bc ec w h hl rfl (by simp [g0]) g1 g2 g3 hne.1
theorem afe (op a b n:Int) (ls:List Int) (lo bo eo:Option Addr) (nb ne lc bc ec:Nat) (w:AG) (h:form op=9) (hl:Ints w (.slice lo ls.length lc) ls) :
  uR 89 op a b n lo (ls.length) lc bo nb bc eo ne ec w λe w'=>e=.returned (.bool (okF 9 op a b n ls nb ne))/\AS w w':=by
 by_cases g0:a=0;rotate_left
 ·have e:okF 9 op a b n ls nb ne=false:=by
   show ((op==66 || (decide (-2147483648<=n)&&decide (n<=2147483647)))&&bV a b 0 ls.length nb ne)=false;rw [fR (by intro hh;exact g0 (by omega))];first|done|rfl|simp
  rw [e];exact Y3 op a b n ls lo bo eo ls.length nb ne lc bc ec w h hl rfl  (by simp [g0])
 by_cases g1:b=0;rotate_left
 ·have e:okF 9 op a b n ls nb ne=false:=by
   show ((op==66 || (decide (-2147483648<=n)&&decide (n<=2147483647)))&&bV a b 0 ls.length nb ne)=false;rw [fR (by intro hh;exact g1 (by omega))];first|done|rfl|simp
  rw [e];exact Y4 op a b n ls lo bo eo ls.length nb ne lc bc ec w h hl rfl (by simp [g0]) (by simp [g1])
 by_cases g2:ls.length=0;rotate_left
 ·have e:okF 9 op a b n ls nb ne=false:=by
   show ((op==66 || (decide (-2147483648<=n)&&decide (n<=2147483647)))&&bV a b 0 ls.length nb ne)=false;rw [fR (by intro hh;exact g2 (by omega))];first|done|rfl|simp
  rw [e];exact Y5 op a b n ls lo bo eo ls.length nb ne lc bc ec w h hl rfl (by simp [g0]) (by simp [g1]) (by omega)
 by_cases g3:nb=0;rotate_left
 ·have e:okF 9 op a b n ls nb ne=false:=by
   show ((op==66 || (decide (-2147483648<=n)&&decide (n<=2147483647)))&&bV a b 0 ls.length nb ne)=false;rw [fR (by intro hh;exact g3 (by omega))];first|done|rfl|simp
  rw [e];exact Y6 op a b n ls lo bo eo ls.length nb ne lc bc ec w h hl rfl (by simp [g0]) (by simp [g1]) g2 (by omega)
 by_cases g4:ne=0;rotate_left
 ·have e:okF 9 op a b n ls nb ne=false:=by
   show ((op==66 || (decide (-2147483648<=n)&&decide (n<=2147483647)))&&bV a b 0 ls.length nb ne)=false;rw [fR (by intro hh;exact g4 (by omega))];first|done|rfl|simp
  rw [e];exact Y7 op a b n ls lo bo eo ls.length nb ne lc bc ec w h hl rfl (by simp [g0]) (by simp [g1]) g2 g3 (by omega)
 have eb:bV a b 0 ls.length nb ne=true:=ay;have ia:idx a=true:=by rw [show a=0 by omega];exact zT
 have ib:idx b=true:=by rw [show b=0 by omega];exact zT
 have il:ls.all idx=true:=by rw [iZ.1 (by omega:ls.length=0)];rfl
 have hR:(idx a&&(idx b&&ls.all idx))=true:=by rw [ia,ib,il];rfl
 by_cases s1:op=65
 ·have d1:(op==66)=false:=by simp [s1]
  by_cases s2:n < -2147483648
  ·have e:okF 9 op a b n ls nb ne=false:=by
    show ((op==66 || (decide (-2147483648<=n)&&decide (n<=2147483647)))&&bV a b 0 ls.length nb ne)=false;rw [d1,aj (by omega:¬ (-2147483648<=n))];rfl
   rw [e];exact Y9 op a b n ls lo bo eo ls.length nb ne lc bc ec w h hl rfl (by simp [g0]) (by simp [g1]) g2 g3 g4 s1 s2
  by_cases s3:2147483647<n
  ·have e:okF 9 op a b n ls nb ne=false:=by
    show ((op==66 || (decide (-2147483648<=n)&&decide (n<=2147483647)))&&bV a b 0 ls.length nb ne)=false;rw [d1,aj (by omega:¬ (n<=2147483647)),Bool.and_false];rfl
   rw [e];exact Za op a b n ls lo bo eo ls.length nb ne lc bc ec w h hl rfl (by simp [g0]) (by simp [g1]) g2 g3 g4 s1 (by omega) s3
  have e:okF 9 op a b n ls nb ne=(idx a&&(idx b&&ls.all idx)):=by
   show ((op==66 || (decide (-2147483648<=n)&&decide (n<=2147483647)))&&bV a b 0 ls.length nb ne)=_;rw [hR,eb,ay (by omega:-2147483648<=n),ay (by omega:n<=2147483647)];simp
  rw [e];exact Zc op a b n ls lo bo eo ls.length nb ne lc bc ec w h hl rfl (by simp [g0]) (by simp [g1]) g2 g3 g4 s1 (by omega) (by omega)
 have d1:(op==66)=true:=by
  rcases ae4 op h with h1|h1
  ·exact absurd h1 s1
  simp [h1]
 have e:okF 9 op a b n ls nb ne=(idx a&&(idx b&&ls.all idx)):=by
  show ((op==66 || (decide (-2147483648<=n)&&decide (n<=2147483647)))&&bV a b 0 ls.length nb ne)=_;rw [hR,eb,d1];rfl
 rw [e];exact Y8 op a b n ls lo bo eo ls.length nb ne lc bc ec w h hl rfl (by simp [g0]) (by simp [g1]) g2 g3 g4 s1
theorem aff (op a b n:Int) (ls:List Int) (lo bo eo:Option Addr) (nb ne lc bc ec:Nat) (w:AG) (h:form op=10) (hl:Ints w (.slice lo ls.length lc) ls) :
  uR 89 op a b n lo (ls.length) lc bo nb bc eo ne ec w λe w'=>e=.returned (.bool (okF 10 op a b n ls nb ne))/\AS w w':=by
 exact Zd op a b n ls lo bo eo ls.length nb ne lc bc ec w h hl rfl
theorem Po (op a b n:Int) (ls:List Int) (lo bo eo:Option Addr) (nb ne lc bc ec:Nat) (w:AG) (hl:Ints w (.slice lo ls.length lc) ls) :
  uR 89 op a b n lo (ls.length) lc bo nb bc eo ne ec w λe w'=>e=.returned (.bool (okF (form op) op a b n ls nb ne))/\AS w w':=by
 rcases Xo op with h|h|h|h|h|h|h|h|h|h|h
 ·rw [h];exact ae5 op a b n ls lo bo eo nb ne lc bc ec w h hl
 ·rw [h];exact ae6 op a b n ls lo bo eo nb ne lc bc ec w h hl
 ·rw [h];exact ae7 op a b n ls lo bo eo nb ne lc bc ec w h hl
 ·rw [h];exact ae8 op a b n ls lo bo eo nb ne lc bc ec w h hl
 ·rw [h];exact ae9 op a b n ls lo bo eo nb ne lc bc ec w h hl
 ·rw [h];exact afa op a b n ls lo bo eo nb ne lc bc ec w h hl
 ·rw [h];exact afb op a b n ls lo bo eo nb ne lc bc ec w h hl
 ·rw [h];exact afc op a b n ls lo bo eo nb ne lc bc ec w h hl
 ·rw [h];exact afd op a b n ls lo bo eo nb ne lc bc ec w h hl
 ·rw [h];exact afe op a b n ls lo bo eo nb ne lc bc ec w h hl
 rw [h];exact aff op a b n ls lo bo eo nb ne lc bc ec w h hl
namespace au
def mq:(d:Nat)->IL d->Bool
 | 0,_=>true
 | d+1,l=>List.all (α:=Ins (IL d)) l λx=>nO (sn x)&&(mq d x.body&&mq d x.els)
def Ci (d:Nat) (x:Ins (IL d)):Bool:=nO (sn x)&&(mq d x.body&&mq d x.els)
end au
theorem Pm (o:Option Addr) (cap:Nat) (w:AG) :
  Calls prog 56 #[.slice o 0 cap] w λe w'=>e=.returned (.bool true)/\AS w w':=by
 go_enter func56,ntmps56;go_wp2_with fail;go_loopw [3] (λi wr=>i=.int .i64 0/\wr=w) (λ_ _=>0)
 case atStart=>exact ⟨rfl,rfl⟩
 case round =>
  obtain ⟨rfl,rfl⟩:=hrel;go_wp2;go_ret;exact ⟨rfl,AC _ _⟩
def Pn (d:Nat):Prop:=∀(v:Value) (l:IL d) (w:AG),At w d v l ->
  Calls prog 56 #[v] w λe w'=>e=.returned (.bool (mq d l))/\AS w w'
theorem ZP (d:Nat) (IH:Pn d) (v:Value) (l:List (Ins (IL d))) (w:AG) (hAt:Row 7 (fM w (At w d)) v l) :
  Calls prog 56 #[v] w λe w'=>e=.returned (.bool (l.all (Ci d)))/\AS w w':=by
 have hlen:=hAt.1;by_cases hz:l.length=0
 ·obtain ⟨o,cap,rfl⟩:=hAt.len;rw [hz];obtain rfl:l = []:=iZ.1 hz;exact Pm o cap w
 obtain ⟨b,off,cap,rfl,hx⟩:=hAt.some (by omega);obtain ⟨R,hR⟩:∃R,R=l.all (Ci d):=⟨_,rfl⟩;rw [<- hR];have HR:Hid (R=(l.drop 0).all (Ci d)):=hR;have HX:=ah hx;have fB:=ah IH;clear hx hAt hR IH;generalize hn:l.length=n at *;go_enter func56,ntmps56;go_wp2_with fail;go_loopw [3] (λi wr=>∃k:Nat,k<=n/\i=.int .i64 k/\Hid (R=(l.drop k).all (Ci d))/\Hid (AS w wr)) (λi _=>n-(RowKit.intOf i).toNat)
 case atStart=>exact ⟨0,by omega,rfl,HR,AC _ _⟩
 case round =>
  obtain ⟨k,hk,rfl,HK,cW⟩:=hrel;by_cases hgo:k<n
  ·obtain ⟨x,hxk⟩:∃x,l[k]?=some x:=⟨_,bG (by omega)⟩;have hI:=(HX.out k x hxk).on cW.out (At.on cW.out d);obtain ⟨k0,k1,k2,k3,⟨lv,k4,a4⟩,⟨bv,k5,a5⟩,⟨ev,k6,a6⟩⟩:=hI;have HN:=ah (HK.out.trans (J5 hxk rfl));have HP:Hid (Ci d x=(okF (form x.op) x.op x.a x.b x.n x.labels (size d x.body) (size d x.els)&&(mq d x.body&&mq d x.els))):=rfl;have I1:=ah λ(w':AG) (h:AS wr w')=>fB.out bv x.body w' (At.on h d _ _ a5);have I2:=ah λ(w':AG) (h:AS wr w')=>fB.out ev x.els w' (At.on h d _ _ a6);obtain ⟨lo,lc,rfl⟩:=Row.len a4;obtain ⟨bo,bc,rfl⟩:=At.len d bv x.body a5;obtain ⟨eo,ec,rfl⟩:=At.len d ev x.els a6;have I0:=ah (Po x.op x.a x.b x.n x.labels lo bo eo (size d x.body) (size d x.els) lc bc ec wr a4);clear hxk a4 a5 a6 HK;generalize okF (form x.op) x.op x.a x.b x.n x.labels (size d x.body) (size d x.els)=r0 at *;generalize mq d x.body=r1 at *;generalize mq d x.els=r2 at *;generalize size d x.body=nb at *;generalize size d x.els=ne at *;generalize x.labels.length=nl at *;go_wp2_with fail;refine I0.out.mono ?_;rintro e w1 ⟨rfl,hb1⟩;have m5:=ak hb1 k5;have m6:=ak hb1 k6;have HB1:=ah hb1;clear hb1 k0 k1 k2 k3 k4 k5 k6;cases r0
   ·have HF:R=false:=by rw [HN.out,HP.out];rfl
    have DN:=ah HF;clear HF HN HP;go_wp2;go_ret;exact ⟨by rw [DN.out];rfl,mJ cW.out HB1.out⟩
   go_wp2_with fail;refine (I1.out _ HB1.out).mono ?_;rintro e w2 ⟨rfl,hb2⟩;have p6:=ak hb2 m6;have HB2:=ah (mJ HB1.out hb2);clear hb2 m5 m6;cases r1
   ·have HF:R=false:=by rw [HN.out,HP.out];rfl
    have DN:=ah HF;clear HF HN HP;go_wp2;go_ret;exact ⟨by rw [DN.out];rfl,mJ cW.out HB2.out⟩
   go_wp2_with fail;refine (I2.out _ HB2.out).mono ?_;rintro e w3 ⟨rfl,hb3⟩;have lS:=ah (mJ cW.out (mJ HB2.out hb3));clear hb3 p6;cases r2
   ·have HF:R=false:=by rw [HN.out,HP.out];rfl
    have DN:=ah HF;clear HF HN HP;go_wp2;go_ret;exact ⟨by rw [DN.out];rfl,lS.out⟩
   have HF:Hid (R=(l.drop (k+1)).all (Ci d)):=ah (by rw [HN.out,HP.out];rfl);clear HN HP;go_wp2;go_roundw
   case rel=>exact ⟨k+1,by omega,by go_num,HF,lS⟩
   case measure=>simp [RowKit.intOf];omega
  have HE:R=true:=J6 (by omega) HK.out;have ZQ:=ah HE;clear HE HK;go_wp2;go_ret;exact ⟨by rw [ZQ.out];rfl,cW.out⟩
theorem Pp:∀(d:Nat),Pn d
 | 0=>λv l w ⟨o,c,hv⟩=>by
  subst hv;exact Pm o c w
 | d+1=>λv l w hAt=>ZP d (Pp d) v l w hAt
theorem J7 (op a b n:Int) (ls:List Int) (lo bo eo:Option Addr) (nb ne lc bc ec:Nat) (w:AG) (hl:Ints w (.slice lo ls.length lc) ls) :
  Calls prog 57 #[.agg #[.int .i64 op,.int .i64 a,.int .i64 b,.int .i64 n,.slice lo ls.length lc,.slice bo nb bc,.slice eo ne ec]] w λe w'=>e=.returned (.bool (rG op&&okF (form op) op a b n ls nb ne))/\AS w w':=by
 have HO:=ah λ(w':AG) (h:AS w w')=>Po op a b n ls lo bo eo nb ne lc bc ec w' (hl.on h);clear hl;generalize okF (form op) op a b n ls nb ne=r at *;generalize ls.length=nl at *;unfold rG;have hw:=ah λ(o:Obj)=>(AC w.heap.size w).alloc (aC _) o;cases h1:op==65
 ·cases h2:op==66
  ·cases h3:op==35
   ·go_enter func57,ntmps57;go_wp2;go_ret;exact ⟨rfl,hw.out _⟩
   go_enter func57,ntmps57;go_wp2_with fail;refine (HO.out _ (hw.out _)).mono ?_;rintro e u ⟨rfl,hb⟩;go_wp2;go_ret;exact ⟨rfl,mJ (hw.out _) hb⟩
  go_enter func57,ntmps57;go_wp2_with fail;refine (HO.out _ (hw.out _)).mono ?_;rintro e u ⟨rfl,hb⟩;go_wp2;go_ret;exact ⟨rfl,mJ (hw.out _) hb⟩
 go_enter func57,ntmps57;go_wp2_with fail;refine (HO.out _ (hw.out _)).mono ?_;rintro e u ⟨rfl,hb⟩;go_wp2;go_ret;exact ⟨rfl,mJ (hw.out _) hb⟩
end Go.Proofs.YtcfifbgemfladaaGreatDoor
