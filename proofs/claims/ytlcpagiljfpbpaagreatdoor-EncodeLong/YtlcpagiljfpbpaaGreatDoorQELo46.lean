/- Texts that the claim needs. -/
import Derived.Test.YtlcpagiljfpbpaaGreatDoorQELo45
namespace Go.Proofs.YtlcpagiljfpbpaaGreatDoor
open Go.RowKit Rep
set_option linter.unusedVariables false
theorem bare_not {a b n:Int} {nl nb ne:Nat} (h:¬ (a=0/\b=0/\n=0/\nl=0/\nb=0/\ne=0)):bare a b n nl nb ne=false:=decide_eq_false h
theorem idx0:idx 0=true:=by decide
def N9 (op f:Int):Prop:=f=9->op=65\/op=66
theorem n9_ite {op:Int} {p:Prop} [Decidable p] {x y:Int} (hx:p->N9 op x) (hy:¬ p->N9 op y):N9 op (if p then x else y):=by
 split
 ·next h=>exact hx h
 ·next h=>exact hy h
theorem form_nine (op:Int) (h:form op=9):op=65\/op=66:=by
 have:N9 op (form op):=by
  unfold form
  repeat (refine n9_ite (fun hp=>by intro hh;first|omega|(exfalso;revert hh;decide)) (fun hn=>?_))
  intro hh;exact absurd hh (by decide)
 exact this h
theorem refOneF0 (op a b n:Int) (ls:List Int) (lo bo eo:Option Addr) (nb ne lc bc ec:Nat) (w:World) (h:form op=0) (hl:Ints w (.slice lo ls.length lc) ls) :
  Calls Tryz.prog 123 #[.agg #[.int .i64 op,.int .i64 a,.int .i64 b,.int .i64 n,.slice lo ls.length lc,.slice bo nb bc,.slice eo ne ec]] w fun e w'=>e=.returned (.bool (okF 0 op a b n ls nb ne))/\Below w.heap.size w w':=by
 exact refOne0 op a b n ls lo bo eo ls.length nb ne lc bc ec w h hl rfl
theorem refOneF1 (op a b n:Int) (ls:List Int) (lo bo eo:Option Addr) (nb ne lc bc ec:Nat) (w:World) (h:form op=1) (hl:Ints w (.slice lo ls.length lc) ls) :
  Calls Tryz.prog 123 #[.agg #[.int .i64 op,.int .i64 a,.int .i64 b,.int .i64 n,.slice lo ls.length lc,.slice bo nb bc,.slice eo ne ec]] w fun e w'=>e=.returned (.bool (okF 1 op a b n ls nb ne))/\Below w.heap.size w w':=by
 by_cases g0:a=0
 rotate_left
 ·have e:okF 1 op a b n ls nb ne=false:=by
   show bare a b n ls.length nb ne=false
   rw [bare_not (by intro hh;exact g0 (by omega))];first|done|rfl|simp
  rw [e]
  exact refOne1xa op a b n ls lo bo eo ls.length nb ne lc bc ec w h hl rfl  (by simp [g0])
 by_cases g1:b=0
 rotate_left
 ·have e:okF 1 op a b n ls nb ne=false:=by
   show bare a b n ls.length nb ne=false
   rw [bare_not (by intro hh;exact g1 (by omega))];first|done|rfl|simp
  rw [e]
  exact refOne1xb op a b n ls lo bo eo ls.length nb ne lc bc ec w h hl rfl (by simp [g0]) (by simp [g1])
 by_cases g2:n=0
 rotate_left
 ·have e:okF 1 op a b n ls nb ne=false:=by
   show bare a b n ls.length nb ne=false
   rw [bare_not (by intro hh;exact g2 (by omega))];first|done|rfl|simp
  rw [e]
  exact refOne1xn op a b n ls lo bo eo ls.length nb ne lc bc ec w h hl rfl (by simp [g0]) (by simp [g1]) (by simp [g2])
 by_cases g3:ls.length=0
 rotate_left
 ·have e:okF 1 op a b n ls nb ne=false:=by
   show bare a b n ls.length nb ne=false
   rw [bare_not (by intro hh;exact g3 (by omega))];first|done|rfl|simp
  rw [e]
  exact refOne1xlabels op a b n ls lo bo eo ls.length nb ne lc bc ec w h hl rfl (by simp [g0]) (by simp [g1]) (by simp [g2]) (by omega)
 by_cases g4:nb=0
 rotate_left
 ·have e:okF 1 op a b n ls nb ne=false:=by
   show bare a b n ls.length nb ne=false
   rw [bare_not (by intro hh;exact g4 (by omega))];first|done|rfl|simp
  rw [e]
  exact refOne1xbody op a b n ls lo bo eo ls.length nb ne lc bc ec w h hl rfl (by simp [g0]) (by simp [g1]) (by simp [g2]) g3 (by omega)
 by_cases g5:ne=0
 rotate_left
 ·have e:okF 1 op a b n ls nb ne=false:=by
   show bare a b n ls.length nb ne=false
   rw [bare_not (by intro hh;exact g5 (by omega))];first|done|rfl|simp
  rw [e]
  exact refOne1xels op a b n ls lo bo eo ls.length nb ne lc bc ec w h hl rfl (by simp [g0]) (by simp [g1]) (by simp [g2]) g3 g4 (by omega)
 have eb:bare a b n ls.length nb ne=true:=decide_eq_true (by omega)
 have ia:idx a=true:=by rw [show a=0 by omega];exact idx0
 have ib:idx b=true:=by rw [show b=0 by omega];exact idx0
 have il:ls.all idx=true:=by rw [List.length_eq_zero_iff.1 (by omega:ls.length=0)];rfl
 have hne:=form_const op (by rw [h];decide)
 have e:okF 1 op a b n ls nb ne=(idx a && (idx b && ls.all idx)):=by
  show bare a b n ls.length nb ne=_
  rw [eb,ia,ib,il];first|done|rfl|simp|simp [Bool.and_assoc]
 rw [e]
 exact refOne1e op a b n ls lo bo eo ls.length nb ne lc bc ec w h hl rfl (by simp [g0]) (by simp [g1]) (by simp [g2]) g3 g4 g5 hne.1
theorem refOneF2 (op a b n:Int) (ls:List Int) (lo bo eo:Option Addr) (nb ne lc bc ec:Nat) (w:World) (h:form op=2) (hl:Ints w (.slice lo ls.length lc) ls) :
  Calls Tryz.prog 123 #[.agg #[.int .i64 op,.int .i64 a,.int .i64 b,.int .i64 n,.slice lo ls.length lc,.slice bo nb bc,.slice eo ne ec]] w fun e w'=>e=.returned (.bool (okF 2 op a b n ls nb ne))/\Below w.heap.size w w':=by
 by_cases g0:b=0
 rotate_left
 ·have e:okF 2 op a b n ls nb ne=false:=by
   show (res a && bare 0 b n ls.length 0 ne)=false
   rw [bare_not (by intro hh;exact g0 (by omega))];first|done|rfl|simp
  rw [e]
  exact refOne2xb op a b n ls lo bo eo ls.length nb ne lc bc ec w h hl rfl  (by simp [g0])
 by_cases g1:n=0
 rotate_left
 ·have e:okF 2 op a b n ls nb ne=false:=by
   show (res a && bare 0 b n ls.length 0 ne)=false
   rw [bare_not (by intro hh;exact g1 (by omega))];first|done|rfl|simp
  rw [e]
  exact refOne2xn op a b n ls lo bo eo ls.length nb ne lc bc ec w h hl rfl (by simp [g0]) (by simp [g1])
 by_cases g2:ls.length=0
 rotate_left
 ·have e:okF 2 op a b n ls nb ne=false:=by
   show (res a && bare 0 b n ls.length 0 ne)=false
   rw [bare_not (by intro hh;exact g2 (by omega))];first|done|rfl|simp
  rw [e]
  exact refOne2xlabels op a b n ls lo bo eo ls.length nb ne lc bc ec w h hl rfl (by simp [g0]) (by simp [g1]) (by omega)
 by_cases g3:ne=0
 rotate_left
 ·have e:okF 2 op a b n ls nb ne=false:=by
   show (res a && bare 0 b n ls.length 0 ne)=false
   rw [bare_not (by intro hh;exact g3 (by omega))];first|done|rfl|simp
  rw [e]
  exact refOne2xels op a b n ls lo bo eo ls.length nb ne lc bc ec w h hl rfl (by simp [g0]) (by simp [g1]) g2 (by omega)
 have eb:bare 0 b n ls.length 0 ne=true:=decide_eq_true (by omega)
 have e:okF 2 op a b n ls nb ne=res a:=by
  show (res a && bare 0 b n ls.length 0 ne)=res a
  rw [eb,Bool.and_true]
 rw [e]
 by_cases e1:a=0
 ·have er:res a=true:=by simp [res,e1]
  rw [er]
  exact refOne2z op a b n ls lo bo eo ls.length nb ne lc bc ec w h hl rfl (by simp [g0]) (by simp [g1]) g2 g3 (by simp [e1])
 ·by_cases e2:a=126
  ·have er:res a=true:=by simp [res,typ,e2]
   rw [er]
   exact refOne2y op a b n ls lo bo eo ls.length nb ne lc bc ec w h hl rfl (by simp [g0]) (by simp [g1]) g2 g3 (by simp [e1]) (by simp [e2])
  ·have er:res a=(a == 127):=by
    rw [Bool.eq_iff_iff];simp [res,typ,e1,e2]
   rw [er]
   exact refOne2w op a b n ls lo bo eo ls.length nb ne lc bc ec w h hl rfl (by simp [g0]) (by simp [g1]) g2 g3 (by simp [e1]) (by simp [e2])
theorem refOneF3 (op a b n:Int) (ls:List Int) (lo bo eo:Option Addr) (nb ne lc bc ec:Nat) (w:World) (h:form op=3) (hl:Ints w (.slice lo ls.length lc) ls) :
  Calls Tryz.prog 123 #[.agg #[.int .i64 op,.int .i64 a,.int .i64 b,.int .i64 n,.slice lo ls.length lc,.slice bo nb bc,.slice eo ne ec]] w fun e w'=>e=.returned (.bool (okF 3 op a b n ls nb ne))/\Below w.heap.size w w':=by
 by_cases g0:b=0
 rotate_left
 ·have e:okF 3 op a b n ls nb ne=false:=by
   show (res a && bare 0 b n ls.length 0 0)=false
   rw [bare_not (by intro hh;exact g0 (by omega))];first|done|rfl|simp
  rw [e]
  exact refOne3xb op a b n ls lo bo eo ls.length nb ne lc bc ec w h hl rfl  (by simp [g0])
 by_cases g1:n=0
 rotate_left
 ·have e:okF 3 op a b n ls nb ne=false:=by
   show (res a && bare 0 b n ls.length 0 0)=false
   rw [bare_not (by intro hh;exact g1 (by omega))];first|done|rfl|simp
  rw [e]
  exact refOne3xn op a b n ls lo bo eo ls.length nb ne lc bc ec w h hl rfl (by simp [g0]) (by simp [g1])
 by_cases g2:ls.length=0
 rotate_left
 ·have e:okF 3 op a b n ls nb ne=false:=by
   show (res a && bare 0 b n ls.length 0 0)=false
   rw [bare_not (by intro hh;exact g2 (by omega))];first|done|rfl|simp
  rw [e]
  exact refOne3xlabels op a b n ls lo bo eo ls.length nb ne lc bc ec w h hl rfl (by simp [g0]) (by simp [g1]) (by omega)
 have eb:bare 0 b n ls.length 0 0=true:=decide_eq_true (by omega)
 have e:okF 3 op a b n ls nb ne=res a:=by
  show (res a && bare 0 b n ls.length 0 0)=res a
  rw [eb,Bool.and_true]
 rw [e]
 by_cases e1:a=0
 ·have er:res a=true:=by simp [res,e1]
  rw [er]
  exact refOne3z op a b n ls lo bo eo ls.length nb ne lc bc ec w h hl rfl (by simp [g0]) (by simp [g1]) g2 (by simp [e1])
 ·by_cases e2:a=126
  ·have er:res a=true:=by simp [res,typ,e2]
   rw [er]
   exact refOne3y op a b n ls lo bo eo ls.length nb ne lc bc ec w h hl rfl (by simp [g0]) (by simp [g1]) g2 (by simp [e1]) (by simp [e2])
  ·have er:res a=(a == 127):=by
    rw [Bool.eq_iff_iff];simp [res,typ,e1,e2]
   rw [er]
   exact refOne3w op a b n ls lo bo eo ls.length nb ne lc bc ec w h hl rfl (by simp [g0]) (by simp [g1]) g2 (by simp [e1]) (by simp [e2])
theorem refOneF4 (op a b n:Int) (ls:List Int) (lo bo eo:Option Addr) (nb ne lc bc ec:Nat) (w:World) (h:form op=4) (hl:Ints w (.slice lo ls.length lc) ls) :
  Calls Tryz.prog 123 #[.agg #[.int .i64 op,.int .i64 a,.int .i64 b,.int .i64 n,.slice lo ls.length lc,.slice bo nb bc,.slice eo ne ec]] w fun e w'=>e=.returned (.bool (okF 4 op a b n ls nb ne))/\Below w.heap.size w w':=by
 by_cases g0:b=0
 rotate_left
 ·have e:okF 4 op a b n ls nb ne=false:=by
   show (idx a && bare 0 b n ls.length nb ne)=false
   rw [bare_not (by intro hh;exact g0 (by omega))];first|done|rfl|simp
  rw [e]
  exact refOne4xb op a b n ls lo bo eo ls.length nb ne lc bc ec w h hl rfl  (by simp [g0])
 by_cases g1:n=0
 rotate_left
 ·have e:okF 4 op a b n ls nb ne=false:=by
   show (idx a && bare 0 b n ls.length nb ne)=false
   rw [bare_not (by intro hh;exact g1 (by omega))];first|done|rfl|simp
  rw [e]
  exact refOne4xn op a b n ls lo bo eo ls.length nb ne lc bc ec w h hl rfl (by simp [g0]) (by simp [g1])
 by_cases g2:ls.length=0
 rotate_left
 ·have e:okF 4 op a b n ls nb ne=false:=by
   show (idx a && bare 0 b n ls.length nb ne)=false
   rw [bare_not (by intro hh;exact g2 (by omega))];first|done|rfl|simp
  rw [e]
  exact refOne4xlabels op a b n ls lo bo eo ls.length nb ne lc bc ec w h hl rfl (by simp [g0]) (by simp [g1]) (by omega)
 by_cases g3:nb=0
 rotate_left
 ·have e:okF 4 op a b n ls nb ne=false:=by
   show (idx a && bare 0 b n ls.length nb ne)=false
   rw [bare_not (by intro hh;exact g3 (by omega))];first|done|rfl|simp
  rw [e]
  exact refOne4xbody op a b n ls lo bo eo ls.length nb ne lc bc ec w h hl rfl (by simp [g0]) (by simp [g1]) g2 (by omega)
 by_cases g4:ne=0
 rotate_left
 ·have e:okF 4 op a b n ls nb ne=false:=by
   show (idx a && bare 0 b n ls.length nb ne)=false
   rw [bare_not (by intro hh;exact g4 (by omega))];first|done|rfl|simp
  rw [e]
  exact refOne4xels op a b n ls lo bo eo ls.length nb ne lc bc ec w h hl rfl (by simp [g0]) (by simp [g1]) g2 g3 (by omega)
 have eb:bare 0 b n ls.length nb ne=true:=decide_eq_true (by omega)
 have ib:idx b=true:=by rw [show b=0 by omega];exact idx0
 have il:ls.all idx=true:=by rw [List.length_eq_zero_iff.1 (by omega:ls.length=0)];rfl
 have hne:=form_const op (by rw [h];decide)
 have e:okF 4 op a b n ls nb ne=(idx a && (idx b && ls.all idx)):=by
  show (idx a && bare 0 b n ls.length nb ne)=_
  rw [eb,ib,il];first|done|rfl|simp|simp [Bool.and_assoc]
 rw [e]
 exact refOne4e op a b n ls lo bo eo ls.length nb ne lc bc ec w h hl rfl (by simp [g0]) (by simp [g1]) g2 g3 g4 hne.1
theorem refOneF5 (op a b n:Int) (ls:List Int) (lo bo eo:Option Addr) (nb ne lc bc ec:Nat) (w:World) (h:form op=5) (hl:Ints w (.slice lo ls.length lc) ls) :
  Calls Tryz.prog 123 #[.agg #[.int .i64 op,.int .i64 a,.int .i64 b,.int .i64 n,.slice lo ls.length lc,.slice bo nb bc,.slice eo ne ec]] w fun e w'=>e=.returned (.bool (okF 5 op a b n ls nb ne))/\Below w.heap.size w w':=by
 by_cases g0:b=0
 rotate_left
 ·have e:okF 5 op a b n ls nb ne=false:=by
   show (idx a && ls.all idx && bare 0 b n 0 nb ne)=false
   rw [bare_not (by intro hh;exact g0 (by omega))];first|done|rfl|simp
  rw [e]
  exact refOne5xb op a b n ls lo bo eo ls.length nb ne lc bc ec w h hl rfl  (by simp [g0])
 by_cases g1:n=0
 rotate_left
 ·have e:okF 5 op a b n ls nb ne=false:=by
   show (idx a && ls.all idx && bare 0 b n 0 nb ne)=false
   rw [bare_not (by intro hh;exact g1 (by omega))];first|done|rfl|simp
  rw [e]
  exact refOne5xn op a b n ls lo bo eo ls.length nb ne lc bc ec w h hl rfl (by simp [g0]) (by simp [g1])
 by_cases g2:nb=0
 rotate_left
 ·have e:okF 5 op a b n ls nb ne=false:=by
   show (idx a && ls.all idx && bare 0 b n 0 nb ne)=false
   rw [bare_not (by intro hh;exact g2 (by omega))];first|done|rfl|simp
  rw [e]
  exact refOne5xbody op a b n ls lo bo eo ls.length nb ne lc bc ec w h hl rfl (by simp [g0]) (by simp [g1]) (by omega)
 by_cases g3:ne=0
 rotate_left
 ·have e:okF 5 op a b n ls nb ne=false:=by
   show (idx a && ls.all idx && bare 0 b n 0 nb ne)=false
   rw [bare_not (by intro hh;exact g3 (by omega))];first|done|rfl|simp
  rw [e]
  exact refOne5xels op a b n ls lo bo eo ls.length nb ne lc bc ec w h hl rfl (by simp [g0]) (by simp [g1]) g2 (by omega)
 have eb:bare 0 b n 0 nb ne=true:=decide_eq_true (by omega)
 have ib:idx b=true:=by rw [show b=0 by omega];exact idx0
 have hne:=form_const op (by rw [h];decide)
 have e:okF 5 op a b n ls nb ne=(idx a && (idx b && ls.all idx)):=by
  show (idx a && ls.all idx && bare 0 b n 0 nb ne)=_
  rw [eb,ib];first|done|rfl|simp|simp [Bool.and_assoc]
 rw [e]
 exact refOne5e op a b n ls lo bo eo ls.length nb ne lc bc ec w h hl rfl (by simp [g0]) (by simp [g1]) g2 g3 hne.1
theorem refOneF6 (op a b n:Int) (ls:List Int) (lo bo eo:Option Addr) (nb ne lc bc ec:Nat) (w:World) (h:form op=6) (hl:Ints w (.slice lo ls.length lc) ls) :
  Calls Tryz.prog 123 #[.agg #[.int .i64 op,.int .i64 a,.int .i64 b,.int .i64 n,.slice lo ls.length lc,.slice bo nb bc,.slice eo ne ec]] w fun e w'=>e=.returned (.bool (okF 6 op a b n ls nb ne))/\Below w.heap.size w w':=by
 by_cases g0:b=0
 rotate_left
 ·have e:okF 6 op a b n ls nb ne=false:=by
   show (idx a && bare 0 b n ls.length nb ne)=false
   rw [bare_not (by intro hh;exact g0 (by omega))];first|done|rfl|simp
  rw [e]
  exact refOne6xb op a b n ls lo bo eo ls.length nb ne lc bc ec w h hl rfl  (by simp [g0])
 by_cases g1:n=0
 rotate_left
 ·have e:okF 6 op a b n ls nb ne=false:=by
   show (idx a && bare 0 b n ls.length nb ne)=false
   rw [bare_not (by intro hh;exact g1 (by omega))];first|done|rfl|simp
  rw [e]
  exact refOne6xn op a b n ls lo bo eo ls.length nb ne lc bc ec w h hl rfl (by simp [g0]) (by simp [g1])
 by_cases g2:ls.length=0
 rotate_left
 ·have e:okF 6 op a b n ls nb ne=false:=by
   show (idx a && bare 0 b n ls.length nb ne)=false
   rw [bare_not (by intro hh;exact g2 (by omega))];first|done|rfl|simp
  rw [e]
  exact refOne6xlabels op a b n ls lo bo eo ls.length nb ne lc bc ec w h hl rfl (by simp [g0]) (by simp [g1]) (by omega)
 by_cases g3:nb=0
 rotate_left
 ·have e:okF 6 op a b n ls nb ne=false:=by
   show (idx a && bare 0 b n ls.length nb ne)=false
   rw [bare_not (by intro hh;exact g3 (by omega))];first|done|rfl|simp
  rw [e]
  exact refOne6xbody op a b n ls lo bo eo ls.length nb ne lc bc ec w h hl rfl (by simp [g0]) (by simp [g1]) g2 (by omega)
 by_cases g4:ne=0
 rotate_left
 ·have e:okF 6 op a b n ls nb ne=false:=by
   show (idx a && bare 0 b n ls.length nb ne)=false
   rw [bare_not (by intro hh;exact g4 (by omega))];first|done|rfl|simp
  rw [e]
  exact refOne6xels op a b n ls lo bo eo ls.length nb ne lc bc ec w h hl rfl (by simp [g0]) (by simp [g1]) g2 g3 (by omega)
 have eb:bare 0 b n ls.length nb ne=true:=decide_eq_true (by omega)
 have ib:idx b=true:=by rw [show b=0 by omega];exact idx0
 have il:ls.all idx=true:=by rw [List.length_eq_zero_iff.1 (by omega:ls.length=0)];rfl
 have hne:=form_const op (by rw [h];decide)
 have e:okF 6 op a b n ls nb ne=(idx a && (idx b && ls.all idx)):=by
  show (idx a && bare 0 b n ls.length nb ne)=_
  rw [eb,ib,il];first|done|rfl|simp|simp [Bool.and_assoc]
 rw [e]
 exact refOne6e op a b n ls lo bo eo ls.length nb ne lc bc ec w h hl rfl (by simp [g0]) (by simp [g1]) g2 g3 g4 hne.1
theorem refOneF7 (op a b n:Int) (ls:List Int) (lo bo eo:Option Addr) (nb ne lc bc ec:Nat) (w:World) (h:form op=7) (hl:Ints w (.slice lo ls.length lc) ls) :
  Calls Tryz.prog 123 #[.agg #[.int .i64 op,.int .i64 a,.int .i64 b,.int .i64 n,.slice lo ls.length lc,.slice bo nb bc,.slice eo ne ec]] w fun e w'=>e=.returned (.bool (okF 7 op a b n ls nb ne))/\Below w.heap.size w w':=by
 by_cases g0:b=0
 rotate_left
 ·have e:okF 7 op a b n ls nb ne=false:=by
   show (idx a && bare 0 b n ls.length nb ne)=false
   rw [bare_not (by intro hh;exact g0 (by omega))];first|done|rfl|simp
  rw [e]
  exact refOne7xb op a b n ls lo bo eo ls.length nb ne lc bc ec w h hl rfl  (by simp [g0])
 by_cases g1:n=0
 rotate_left
 ·have e:okF 7 op a b n ls nb ne=false:=by
   show (idx a && bare 0 b n ls.length nb ne)=false
   rw [bare_not (by intro hh;exact g1 (by omega))];first|done|rfl|simp
  rw [e]
  exact refOne7xn op a b n ls lo bo eo ls.length nb ne lc bc ec w h hl rfl (by simp [g0]) (by simp [g1])
 by_cases g2:ls.length=0
 rotate_left
 ·have e:okF 7 op a b n ls nb ne=false:=by
   show (idx a && bare 0 b n ls.length nb ne)=false
   rw [bare_not (by intro hh;exact g2 (by omega))];first|done|rfl|simp
  rw [e]
  exact refOne7xlabels op a b n ls lo bo eo ls.length nb ne lc bc ec w h hl rfl (by simp [g0]) (by simp [g1]) (by omega)
 by_cases g3:nb=0
 rotate_left
 ·have e:okF 7 op a b n ls nb ne=false:=by
   show (idx a && bare 0 b n ls.length nb ne)=false
   rw [bare_not (by intro hh;exact g3 (by omega))];first|done|rfl|simp
  rw [e]
  exact refOne7xbody op a b n ls lo bo eo ls.length nb ne lc bc ec w h hl rfl (by simp [g0]) (by simp [g1]) g2 (by omega)
 by_cases g4:ne=0
 rotate_left
 ·have e:okF 7 op a b n ls nb ne=false:=by
   show (idx a && bare 0 b n ls.length nb ne)=false
   rw [bare_not (by intro hh;exact g4 (by omega))];first|done|rfl|simp
  rw [e]
  exact refOne7xels op a b n ls lo bo eo ls.length nb ne lc bc ec w h hl rfl (by simp [g0]) (by simp [g1]) g2 g3 (by omega)
 have eb:bare 0 b n ls.length nb ne=true:=decide_eq_true (by omega)
 have ib:idx b=true:=by rw [show b=0 by omega];exact idx0
 have il:ls.all idx=true:=by rw [List.length_eq_zero_iff.1 (by omega:ls.length=0)];rfl
 have hne:=form_const op (by rw [h];decide)
 have e:okF 7 op a b n ls nb ne=(idx a && (idx b && ls.all idx)):=by
  show (idx a && bare 0 b n ls.length nb ne)=_
  rw [eb,ib,il];first|done|rfl|simp|simp [Bool.and_assoc]
 rw [e]
 exact refOne7e op a b n ls lo bo eo ls.length nb ne lc bc ec w h hl rfl (by simp [g0]) (by simp [g1]) g2 g3 g4 hne.1
theorem refOneF8 (op a b n:Int) (ls:List Int) (lo bo eo:Option Addr) (nb ne lc bc ec:Nat) (w:World) (h:form op=8) (hl:Ints w (.slice lo ls.length lc) ls) :
  Calls Tryz.prog 123 #[.agg #[.int .i64 op,.int .i64 a,.int .i64 b,.int .i64 n,.slice lo ls.length lc,.slice bo nb bc,.slice eo ne ec]] w fun e w'=>e=.returned (.bool (okF 8 op a b n ls nb ne))/\Below w.heap.size w w':=by
 by_cases g0:n=0
 rotate_left
 ·have e:okF 8 op a b n ls nb ne=false:=by
   show ((idx a && idx b) && bare 0 0 n ls.length nb ne)=false
   rw [bare_not (by intro hh;exact g0 (by omega))];first|done|rfl|simp
  rw [e]
  exact refOne8xn op a b n ls lo bo eo ls.length nb ne lc bc ec w h hl rfl  (by simp [g0])
 by_cases g1:ls.length=0
 rotate_left
 ·have e:okF 8 op a b n ls nb ne=false:=by
   show ((idx a && idx b) && bare 0 0 n ls.length nb ne)=false
   rw [bare_not (by intro hh;exact g1 (by omega))];first|done|rfl|simp
  rw [e]
  exact refOne8xlabels op a b n ls lo bo eo ls.length nb ne lc bc ec w h hl rfl (by simp [g0]) (by omega)
 by_cases g2:nb=0
 rotate_left
 ·have e:okF 8 op a b n ls nb ne=false:=by
   show ((idx a && idx b) && bare 0 0 n ls.length nb ne)=false
   rw [bare_not (by intro hh;exact g2 (by omega))];first|done|rfl|simp
  rw [e]
  exact refOne8xbody op a b n ls lo bo eo ls.length nb ne lc bc ec w h hl rfl (by simp [g0]) g1 (by omega)
 by_cases g3:ne=0
 rotate_left
 ·have e:okF 8 op a b n ls nb ne=false:=by
   show ((idx a && idx b) && bare 0 0 n ls.length nb ne)=false
   rw [bare_not (by intro hh;exact g3 (by omega))];first|done|rfl|simp
  rw [e]
  exact refOne8xels op a b n ls lo bo eo ls.length nb ne lc bc ec w h hl rfl (by simp [g0]) g1 g2 (by omega)
 have eb:bare 0 0 n ls.length nb ne=true:=decide_eq_true (by omega)
 have il:ls.all idx=true:=by rw [List.length_eq_zero_iff.1 (by omega:ls.length=0)];rfl
 have hne:=form_const op (by rw [h];decide)
 have e:okF 8 op a b n ls nb ne=(idx a && (idx b && ls.all idx)):=by
  show ((idx a && idx b) && bare 0 0 n ls.length nb ne)=_
  rw [eb,il];first|done|rfl|simp|simp [Bool.and_assoc]
 rw [e]
 exact refOne8e op a b n ls lo bo eo ls.length nb ne lc bc ec w h hl rfl (by simp [g0]) g1 g2 g3 hne.1
theorem refOneF9 (op a b n:Int) (ls:List Int) (lo bo eo:Option Addr) (nb ne lc bc ec:Nat) (w:World) (h:form op=9) (hl:Ints w (.slice lo ls.length lc) ls) :
  Calls Tryz.prog 123 #[.agg #[.int .i64 op,.int .i64 a,.int .i64 b,.int .i64 n,.slice lo ls.length lc,.slice bo nb bc,.slice eo ne ec]] w fun e w'=>e=.returned (.bool (okF 9 op a b n ls nb ne))/\Below w.heap.size w w':=by
 by_cases g0:a=0
 rotate_left
 ·have e:okF 9 op a b n ls nb ne=false:=by
   show ((op == 66 || (decide (-2147483648<=n) && decide (n<=2147483647))) && bare a b 0 ls.length nb ne)=false
   rw [bare_not (by intro hh;exact g0 (by omega))];first|done|rfl|simp
  rw [e]
  exact refOne9xa op a b n ls lo bo eo ls.length nb ne lc bc ec w h hl rfl  (by simp [g0])
 by_cases g1:b=0
 rotate_left
 ·have e:okF 9 op a b n ls nb ne=false:=by
   show ((op == 66 || (decide (-2147483648<=n) && decide (n<=2147483647))) && bare a b 0 ls.length nb ne)=false
   rw [bare_not (by intro hh;exact g1 (by omega))];first|done|rfl|simp
  rw [e]
  exact refOne9xb op a b n ls lo bo eo ls.length nb ne lc bc ec w h hl rfl (by simp [g0]) (by simp [g1])
 by_cases g2:ls.length=0
 rotate_left
 ·have e:okF 9 op a b n ls nb ne=false:=by
   show ((op == 66 || (decide (-2147483648<=n) && decide (n<=2147483647))) && bare a b 0 ls.length nb ne)=false
   rw [bare_not (by intro hh;exact g2 (by omega))];first|done|rfl|simp
  rw [e]
  exact refOne9xlabels op a b n ls lo bo eo ls.length nb ne lc bc ec w h hl rfl (by simp [g0]) (by simp [g1]) (by omega)
 by_cases g3:nb=0
 rotate_left
 ·have e:okF 9 op a b n ls nb ne=false:=by
   show ((op == 66 || (decide (-2147483648<=n) && decide (n<=2147483647))) && bare a b 0 ls.length nb ne)=false
   rw [bare_not (by intro hh;exact g3 (by omega))];first|done|rfl|simp
  rw [e]
  exact refOne9xbody op a b n ls lo bo eo ls.length nb ne lc bc ec w h hl rfl (by simp [g0]) (by simp [g1]) g2 (by omega)
 by_cases g4:ne=0
 rotate_left
 ·have e:okF 9 op a b n ls nb ne=false:=by
   show ((op == 66 || (decide (-2147483648<=n) && decide (n<=2147483647))) && bare a b 0 ls.length nb ne)=false
   rw [bare_not (by intro hh;exact g4 (by omega))];first|done|rfl|simp
  rw [e]
  exact refOne9xels op a b n ls lo bo eo ls.length nb ne lc bc ec w h hl rfl (by simp [g0]) (by simp [g1]) g2 g3 (by omega)
 have eb:bare a b 0 ls.length nb ne=true:=decide_eq_true (by omega)
 have ia:idx a=true:=by rw [show a=0 by omega];exact idx0
 have ib:idx b=true:=by rw [show b=0 by omega];exact idx0
 have il:ls.all idx=true:=by rw [List.length_eq_zero_iff.1 (by omega:ls.length=0)];rfl
 have hR:(idx a && (idx b && ls.all idx))=true:=by rw [ia,ib,il];rfl
 by_cases s1:op=65
 ·have d1:(op == 66)=false:=by simp [s1]
  by_cases s2:n < -2147483648
  ·have e:okF 9 op a b n ls nb ne=false:=by
    show ((op == 66 || (decide (-2147483648<=n) && decide (n<=2147483647))) && bare a b 0 ls.length nb ne)=false
    rw [d1,decide_eq_false (by omega:¬ (-2147483648<=n))];rfl
   rw [e]
   exact refOne9f op a b n ls lo bo eo ls.length nb ne lc bc ec w h hl rfl (by simp [g0]) (by simp [g1]) g2 g3 g4 s1 s2
  ·by_cases s3:2147483647<n
   ·have e:okF 9 op a b n ls nb ne=false:=by
     show ((op == 66 || (decide (-2147483648<=n) && decide (n<=2147483647))) && bare a b 0 ls.length nb ne)=false
     rw [d1,decide_eq_false (by omega:¬ (n<=2147483647)),Bool.and_false];rfl
    rw [e]
    exact refOne9g op a b n ls lo bo eo ls.length nb ne lc bc ec w h hl rfl (by simp [g0]) (by simp [g1]) g2 g3 g4 s1 (by omega) s3
   ·have e:okF 9 op a b n ls nb ne=(idx a && (idx b && ls.all idx)):=by
     show ((op == 66 || (decide (-2147483648<=n) && decide (n<=2147483647))) && bare a b 0 ls.length nb ne)=_
     rw [hR,eb,decide_eq_true (by omega:-2147483648<=n),decide_eq_true (by omega:n<=2147483647)];simp
    rw [e]
    exact refOne9h op a b n ls lo bo eo ls.length nb ne lc bc ec w h hl rfl (by simp [g0]) (by simp [g1]) g2 g3 g4 s1 (by omega) (by omega)
 ·have d1:(op == 66)=true:=by
   rcases form_nine op h with h1|h1
   ·exact absurd h1 s1
   ·simp [h1]
  have e:okF 9 op a b n ls nb ne=(idx a && (idx b && ls.all idx)):=by
   show ((op == 66 || (decide (-2147483648<=n) && decide (n<=2147483647))) && bare a b 0 ls.length nb ne)=_
   rw [hR,eb,d1];rfl
  rw [e]
  exact refOne9e op a b n ls lo bo eo ls.length nb ne lc bc ec w h hl rfl (by simp [g0]) (by simp [g1]) g2 g3 g4 s1
theorem refOneF10 (op a b n:Int) (ls:List Int) (lo bo eo:Option Addr) (nb ne lc bc ec:Nat) (w:World) (h:form op=10) (hl:Ints w (.slice lo ls.length lc) ls) :
  Calls Tryz.prog 123 #[.agg #[.int .i64 op,.int .i64 a,.int .i64 b,.int .i64 n,.slice lo ls.length lc,.slice bo nb bc,.slice eo ne ec]] w fun e w'=>e=.returned (.bool (okF 10 op a b n ls nb ne))/\Below w.heap.size w w':=by
 exact refOne10 op a b n ls lo bo eo ls.length nb ne lc bc ec w h hl rfl
theorem refOne (op a b n:Int) (ls:List Int) (lo bo eo:Option Addr) (nb ne lc bc ec:Nat) (w:World) (hl:Ints w (.slice lo ls.length lc) ls) :
  Calls Tryz.prog 123 #[.agg #[.int .i64 op,.int .i64 a,.int .i64 b,.int .i64 n,.slice lo ls.length lc,.slice bo nb bc,.slice eo ne ec]] w fun e w'=>e=.returned (.bool (okF (form op) op a b n ls nb ne))/\Below w.heap.size w w':=by
 rcases form_range op with h|h|h|h|h|h|h|h|h|h|h
 ·rw [h];exact refOneF0 op a b n ls lo bo eo nb ne lc bc ec w h hl
 ·rw [h];exact refOneF1 op a b n ls lo bo eo nb ne lc bc ec w h hl
 ·rw [h];exact refOneF2 op a b n ls lo bo eo nb ne lc bc ec w h hl
 ·rw [h];exact refOneF3 op a b n ls lo bo eo nb ne lc bc ec w h hl
 ·rw [h];exact refOneF4 op a b n ls lo bo eo nb ne lc bc ec w h hl
 ·rw [h];exact refOneF5 op a b n ls lo bo eo nb ne lc bc ec w h hl
 ·rw [h];exact refOneF6 op a b n ls lo bo eo nb ne lc bc ec w h hl
 ·rw [h];exact refOneF7 op a b n ls lo bo eo nb ne lc bc ec w h hl
 ·rw [h];exact refOneF8 op a b n ls lo bo eo nb ne lc bc ec w h hl
 ·rw [h];exact refOneF9 op a b n ls lo bo eo nb ne lc bc ec w h hl
 ·rw [h];exact refOneF10 op a b n ls lo bo eo nb ne lc bc ec w h hl
end Go.Proofs.YtlcpagiljfpbpaaGreatDoor

