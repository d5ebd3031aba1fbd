/- Texts that the claim needs. -/
import Derived.Test.YtlcpagiljfpbpaaGreatDoorQELo3
import Derived.Test.YtlcpagiljfpbpaaGreatDoorQELo33
namespace Go.Proofs.YtlcpagiljfpbpaaGreatDoor
open Go.RowKit Rep
set_option linter.unusedVariables false
namespace Rep
theorem form_const (op:Int) (h:form op≠9):op≠65/\op≠66:=by
 constructor
 ·rintro rfl;exact h (by decide)
 ·rintro rfl;exact h (by decide)
end Rep
set_option maxHeartbeats 2000000 in
theorem refOne0 (op a b n:Int) (ls:List Int) (lo bo eo:Option Addr) (nl nb ne lc bc ec:Nat) (w:World) (hf:form op=0) (hl:Ints w (.slice lo nl lc) ls) (hnl:ls.length=nl) :
  Calls Tryz.prog 123 #[.agg #[.int .i64 op,.int .i64 a,.int .i64 b,.int .i64 n,.slice lo nl lc,.slice bo nb bc,.slice eo ne ec]] w fun e w'=>e=.returned (.bool false)/\Below w.heap.size w w':=by
 have hlen:=hl.1
 have HL:=hideM hl
 have HF:=hideM hf
 have HNL:=hideM hnl
 rw [hnl] at hlen
 clear hl hf hnl
 go_enter Tryz.func123,Tryz.ntmps123
 go_wp2_with fail
 refine (refForm _ _).mono ?_
 rintro e u ⟨rfl,rfl⟩
 rw [HF.out]
 go_wp2
 go_ret
 exact ⟨rfl,(Below.refl _ w).alloc (Nat.le_refl _) _⟩
set_option maxHeartbeats 2000000 in
theorem refOne1xa (op a b n:Int) (ls:List Int) (lo bo eo:Option Addr) (nl nb ne lc bc ec:Nat) (w:World) (hf:form op=1) (hl:Ints w (.slice lo nl lc) ls) (hnl:ls.length=nl) (d0:(a != 0)=true) :
  Calls Tryz.prog 123 #[.agg #[.int .i64 op,.int .i64 a,.int .i64 b,.int .i64 n,.slice lo nl lc,.slice bo nb bc,.slice eo ne ec]] w fun e w'=>e=.returned (.bool false)/\Below w.heap.size w w':=by
 have hlen:=hl.1
 have HL:=hideM hl
 have HF:=hideM hf
 have HNL:=hideM hnl
 rw [hnl] at hlen
 clear hl hf hnl
 go_enter Tryz.func123,Tryz.ntmps123
 go_wp2_with fail
 refine (refForm _ _).mono ?_
 rintro e u ⟨rfl,rfl⟩
 rw [HF.out]
 go_wp2
 go_ret
 exact ⟨rfl,(Below.refl _ w).alloc (Nat.le_refl _) _⟩
set_option maxHeartbeats 2000000 in
theorem refOne1xb (op a b n:Int) (ls:List Int) (lo bo eo:Option Addr) (nl nb ne lc bc ec:Nat) (w:World) (hf:form op=1) (hl:Ints w (.slice lo nl lc) ls) (hnl:ls.length=nl) (d0:(a != 0)=false) (d1:(b != 0)=true) :
  Calls Tryz.prog 123 #[.agg #[.int .i64 op,.int .i64 a,.int .i64 b,.int .i64 n,.slice lo nl lc,.slice bo nb bc,.slice eo ne ec]] w fun e w'=>e=.returned (.bool false)/\Below w.heap.size w w':=by
 have hlen:=hl.1
 have HL:=hideM hl
 have HF:=hideM hf
 have HNL:=hideM hnl
 rw [hnl] at hlen
 clear hl hf hnl
 go_enter Tryz.func123,Tryz.ntmps123
 go_wp2_with fail
 refine (refForm _ _).mono ?_
 rintro e u ⟨rfl,rfl⟩
 rw [HF.out]
 go_wp2
 go_ret
 exact ⟨rfl,(Below.refl _ w).alloc (Nat.le_refl _) _⟩
set_option maxHeartbeats 2000000 in
theorem refOne1xn (op a b n:Int) (ls:List Int) (lo bo eo:Option Addr) (nl nb ne lc bc ec:Nat) (w:World) (hf:form op=1) (hl:Ints w (.slice lo nl lc) ls) (hnl:ls.length=nl) (d0:(a != 0)=false) (d1:(b != 0)=false) (d2:(n != 0)=true) :
  Calls Tryz.prog 123 #[.agg #[.int .i64 op,.int .i64 a,.int .i64 b,.int .i64 n,.slice lo nl lc,.slice bo nb bc,.slice eo ne ec]] w fun e w'=>e=.returned (.bool false)/\Below w.heap.size w w':=by
 have hlen:=hl.1
 have HL:=hideM hl
 have HF:=hideM hf
 have HNL:=hideM hnl
 rw [hnl] at hlen
 clear hl hf hnl
 go_enter Tryz.func123,Tryz.ntmps123
 go_wp2_with fail
 refine (refForm _ _).mono ?_
 rintro e u ⟨rfl,rfl⟩
 rw [HF.out]
 go_wp2
 go_ret
 exact ⟨rfl,(Below.refl _ w).alloc (Nat.le_refl _) _⟩
set_option maxHeartbeats 2000000 in
theorem refOne1xlabels (op a b n:Int) (ls:List Int) (lo bo eo:Option Addr) (nl nb ne lc bc ec:Nat) (w:World) (hf:form op=1) (hl:Ints w (.slice lo nl lc) ls) (hnl:ls.length=nl) (d0:(a != 0)=false) (d1:(b != 0)=false) (d2:(n != 0)=false) (d3:0<nl) :
  Calls Tryz.prog 123 #[.agg #[.int .i64 op,.int .i64 a,.int .i64 b,.int .i64 n,.slice lo nl lc,.slice bo nb bc,.slice eo ne ec]] w fun e w'=>e=.returned (.bool false)/\Below w.heap.size w w':=by
 have hlen:=hl.1
 have HL:=hideM hl
 have HF:=hideM hf
 have HNL:=hideM hnl
 rw [hnl] at hlen
 clear hl hf hnl
 have d3a:¬ nl=0:=by omega
 have d3b:(0:Int)<(nl:Int):=by omega
 go_enter Tryz.func123,Tryz.ntmps123
 go_wp2_with fail
 refine (refForm _ _).mono ?_
 rintro e u ⟨rfl,rfl⟩
 rw [HF.out]
 go_wp2
 go_ret
 exact ⟨rfl,(Below.refl _ w).alloc (Nat.le_refl _) _⟩
set_option maxHeartbeats 2000000 in
theorem refOne1xbody (op a b n:Int) (ls:List Int) (lo bo eo:Option Addr) (nl nb ne lc bc ec:Nat) (w:World) (hf:form op=1) (hl:Ints w (.slice lo nl lc) ls) (hnl:ls.length=nl) (d0:(a != 0)=false) (d1:(b != 0)=false) (d2:(n != 0)=false) (d3:nl=0) (d4:0<nb) :
  Calls Tryz.prog 123 #[.agg #[.int .i64 op,.int .i64 a,.int .i64 b,.int .i64 n,.slice lo nl lc,.slice bo nb bc,.slice eo ne ec]] w fun e w'=>e=.returned (.bool false)/\Below w.heap.size w w':=by
 have hlen:=hl.1
 have HL:=hideM hl
 have HF:=hideM hf
 have HNL:=hideM hnl
 rw [hnl] at hlen
 clear hl hf hnl
 have d4a:¬ nb=0:=by omega
 have d4b:(0:Int)<(nb:Int):=by omega
 subst d3
 go_enter Tryz.func123,Tryz.ntmps123
 go_wp2_with fail
 refine (refForm _ _).mono ?_
 rintro e u ⟨rfl,rfl⟩
 rw [HF.out]
 go_wp2
 go_ret
 exact ⟨rfl,(Below.refl _ w).alloc (Nat.le_refl _) _⟩
set_option maxHeartbeats 2000000 in
theorem refOne1xels (op a b n:Int) (ls:List Int) (lo bo eo:Option Addr) (nl nb ne lc bc ec:Nat) (w:World) (hf:form op=1) (hl:Ints w (.slice lo nl lc) ls) (hnl:ls.length=nl) (d0:(a != 0)=false) (d1:(b != 0)=false) (d2:(n != 0)=false) (d3:nl=0) (d4:nb=0) (d5:0<ne) :
  Calls Tryz.prog 123 #[.agg #[.int .i64 op,.int .i64 a,.int .i64 b,.int .i64 n,.slice lo nl lc,.slice bo nb bc,.slice eo ne ec]] w fun e w'=>e=.returned (.bool false)/\Below w.heap.size w w':=by
 have hlen:=hl.1
 have HL:=hideM hl
 have HF:=hideM hf
 have HNL:=hideM hnl
 rw [hnl] at hlen
 clear hl hf hnl
 have d5a:¬ ne=0:=by omega
 have d5b:(0:Int)<(ne:Int):=by omega
 subst d3
 subst d4
 go_enter Tryz.func123,Tryz.ntmps123
 go_wp2_with fail
 refine (refForm _ _).mono ?_
 rintro e u ⟨rfl,rfl⟩
 rw [HF.out]
 go_wp2
 go_ret
 exact ⟨rfl,(Below.refl _ w).alloc (Nat.le_refl _) _⟩
set_option maxHeartbeats 2000000 in
theorem refOne1e (op a b n:Int) (ls:List Int) (lo bo eo:Option Addr) (nl nb ne lc bc ec:Nat) (w:World) (hf:form op=1) (hl:Ints w (.slice lo nl lc) ls) (hnl:ls.length=nl) (d0:(a != 0)=false) (d1:(b != 0)=false) (d2:(n != 0)=false) (d3:nl=0) (d4:nb=0) (d5:ne=0) (s1:¬ op=65) :
  Calls Tryz.prog 123 #[.agg #[.int .i64 op,.int .i64 a,.int .i64 b,.int .i64 n,.slice lo nl lc,.slice bo nb bc,.slice eo ne ec]] w fun e w'=>e=.returned (.bool (idx a && (idx b && ls.all idx)))/\Below w.heap.size w w':=by
 have hlen:=hl.1
 have HL:=hideM hl
 have HF:=hideM hf
 have HNL:=hideM hnl
 rw [hnl] at hlen
 clear hl hf hnl
 subst d3
 subst d4
 subst d5
 have s1b:(op == 65)=false:=by simp [s1]
 have i1:=hideM fun (w:World)=>refIndex a w
 have i2:=hideM fun (w:World)=>refIndex b w
 have i3:=hideM fun (w':World) (h:Below w.heap.size w w')=>refIndices _ ls w' (HL.out.on h)
 generalize idx a=r1 at *
 generalize idx b=r2 at *
 generalize ls.all idx=r3 at *
 go_enter Tryz.func123,Tryz.ntmps123
 go_wp2_with fail
 refine (refForm _ _).mono ?_
 rintro e u ⟨rfl,rfl⟩
 rw [HF.out]
 go_wp2_with fail
 refine (i1.out _).mono ?_
 rintro e u ⟨rfl,rfl⟩
 cases r1
 ·go_wp2
  go_ret
  exact ⟨rfl,(Below.refl _ w).alloc (Nat.le_refl _) _⟩
 ·go_wp2_with fail
  refine (i2.out _).mono ?_
  rintro e u ⟨rfl,rfl⟩
  cases r2
  ·go_wp2
   go_ret
   exact ⟨rfl,(Below.refl _ w).alloc (Nat.le_refl _) _⟩
  ·go_wp2_with fail
   refine (i3.out _ ((Below.refl _ w).alloc (Nat.le_refl _) _)).mono ?_
   rintro e u ⟨rfl,rfl⟩
   go_wp2
   go_ret
   exact ⟨rfl,(Below.refl _ w).alloc (Nat.le_refl _) _⟩
set_option maxHeartbeats 2000000 in
theorem refOne2xb (op a b n:Int) (ls:List Int) (lo bo eo:Option Addr) (nl nb ne lc bc ec:Nat) (w:World) (hf:form op=2) (hl:Ints w (.slice lo nl lc) ls) (hnl:ls.length=nl) (d0:(b != 0)=true) :
  Calls Tryz.prog 123 #[.agg #[.int .i64 op,.int .i64 a,.int .i64 b,.int .i64 n,.slice lo nl lc,.slice bo nb bc,.slice eo ne ec]] w fun e w'=>e=.returned (.bool false)/\Below w.heap.size w w':=by
 have hlen:=hl.1
 have HL:=hideM hl
 have HF:=hideM hf
 have HNL:=hideM hnl
 rw [hnl] at hlen
 clear hl hf hnl
 go_enter Tryz.func123,Tryz.ntmps123
 go_wp2_with fail
 refine (refForm _ _).mono ?_
 rintro e u ⟨rfl,rfl⟩
 rw [HF.out]
 go_wp2
 go_ret
 exact ⟨rfl,(Below.refl _ w).alloc (Nat.le_refl _) _⟩
set_option maxHeartbeats 2000000 in
theorem refOne2xn (op a b n:Int) (ls:List Int) (lo bo eo:Option Addr) (nl nb ne lc bc ec:Nat) (w:World) (hf:form op=2) (hl:Ints w (.slice lo nl lc) ls) (hnl:ls.length=nl) (d0:(b != 0)=false) (d1:(n != 0)=true) :
  Calls Tryz.prog 123 #[.agg #[.int .i64 op,.int .i64 a,.int .i64 b,.int .i64 n,.slice lo nl lc,.slice bo nb bc,.slice eo ne ec]] w fun e w'=>e=.returned (.bool false)/\Below w.heap.size w w':=by
 have hlen:=hl.1
 have HL:=hideM hl
 have HF:=hideM hf
 have HNL:=hideM hnl
 rw [hnl] at hlen
 clear hl hf hnl
 go_enter Tryz.func123,Tryz.ntmps123
 go_wp2_with fail
 refine (refForm _ _).mono ?_
 rintro e u ⟨rfl,rfl⟩
 rw [HF.out]
 go_wp2
 go_ret
 exact ⟨rfl,(Below.refl _ w).alloc (Nat.le_refl _) _⟩
set_option maxHeartbeats 2000000 in
theorem refOne2xlabels (op a b n:Int) (ls:List Int) (lo bo eo:Option Addr) (nl nb ne lc bc ec:Nat) (w:World) (hf:form op=2) (hl:Ints w (.slice lo nl lc) ls) (hnl:ls.length=nl) (d0:(b != 0)=false) (d1:(n != 0)=false) (d2:0<nl) :
  Calls Tryz.prog 123 #[.agg #[.int .i64 op,.int .i64 a,.int .i64 b,.int .i64 n,.slice lo nl lc,.slice bo nb bc,.slice eo ne ec]] w fun e w'=>e=.returned (.bool false)/\Below w.heap.size w w':=by
 have hlen:=hl.1
 have HL:=hideM hl
 have HF:=hideM hf
 have HNL:=hideM hnl
 rw [hnl] at hlen
 clear hl hf hnl
 have d2a:¬ nl=0:=by omega
 have d2b:(0:Int)<(nl:Int):=by omega
 go_enter Tryz.func123,Tryz.ntmps123
 go_wp2_with fail
 refine (refForm _ _).mono ?_
 rintro e u ⟨rfl,rfl⟩
 rw [HF.out]
 go_wp2
 go_ret
 exact ⟨rfl,(Below.refl _ w).alloc (Nat.le_refl _) _⟩
set_option maxHeartbeats 2000000 in
theorem refOne2xels (op a b n:Int) (ls:List Int) (lo bo eo:Option Addr) (nl nb ne lc bc ec:Nat) (w:World) (hf:form op=2) (hl:Ints w (.slice lo nl lc) ls) (hnl:ls.length=nl) (d0:(b != 0)=false) (d1:(n != 0)=false) (d2:nl=0) (d3:0<ne) :
  Calls Tryz.prog 123 #[.agg #[.int .i64 op,.int .i64 a,.int .i64 b,.int .i64 n,.slice lo nl lc,.slice bo nb bc,.slice eo ne ec]] w fun e w'=>e=.returned (.bool false)/\Below w.heap.size w w':=by
 have hlen:=hl.1
 have HL:=hideM hl
 have HF:=hideM hf
 have HNL:=hideM hnl
 rw [hnl] at hlen
 clear hl hf hnl
 have d3a:¬ ne=0:=by omega
 have d3b:(0:Int)<(ne:Int):=by omega
 subst d2
 go_enter Tryz.func123,Tryz.ntmps123
 go_wp2_with fail
 refine (refForm _ _).mono ?_
 rintro e u ⟨rfl,rfl⟩
 rw [HF.out]
 go_wp2
 go_ret
 exact ⟨rfl,(Below.refl _ w).alloc (Nat.le_refl _) _⟩
set_option maxHeartbeats 2000000 in
theorem refOne2z (op a b n:Int) (ls:List Int) (lo bo eo:Option Addr) (nl nb ne lc bc ec:Nat) (w:World) (hf:form op=2) (hl:Ints w (.slice lo nl lc) ls) (hnl:ls.length=nl) (d0:(b != 0)=false) (d1:(n != 0)=false) (d2:nl=0) (d3:ne=0) (e1:(a == 0)=true) :
  Calls Tryz.prog 123 #[.agg #[.int .i64 op,.int .i64 a,.int .i64 b,.int .i64 n,.slice lo nl lc,.slice bo nb bc,.slice eo ne ec]] w fun e w'=>e=.returned (.bool true)/\Below w.heap.size w w':=by
 have hlen:=hl.1
 have HL:=hideM hl
 have HF:=hideM hf
 have HNL:=hideM hnl
 rw [hnl] at hlen
 clear hl hf hnl
 subst d2
 subst d3
 go_enter Tryz.func123,Tryz.ntmps123
 go_wp2_with fail
 refine (refForm _ _).mono ?_
 rintro e u ⟨rfl,rfl⟩
 rw [HF.out]
 go_wp2
 go_ret
 exact ⟨rfl,(Below.refl _ w).alloc (Nat.le_refl _) _⟩
set_option maxHeartbeats 2000000 in
theorem refOne2y (op a b n:Int) (ls:List Int) (lo bo eo:Option Addr) (nl nb ne lc bc ec:Nat) (w:World) (hf:form op=2) (hl:Ints w (.slice lo nl lc) ls) (hnl:ls.length=nl) (d0:(b != 0)=false) (d1:(n != 0)=false) (d2:nl=0) (d3:ne=0) (e1:(a == 0)=false) (e2:(a == 126)=true) :
  Calls Tryz.prog 123 #[.agg #[.int .i64 op,.int .i64 a,.int .i64 b,.int .i64 n,.slice lo nl lc,.slice bo nb bc,.slice eo ne ec]] w fun e w'=>e=.returned (.bool true)/\Below w.heap.size w w':=by
 have hlen:=hl.1
 have HL:=hideM hl
 have HF:=hideM hf
 have HNL:=hideM hnl
 rw [hnl] at hlen
 clear hl hf hnl
 subst d2
 subst d3
 go_enter Tryz.func123,Tryz.ntmps123
 go_wp2_with fail
 refine (refForm _ _).mono ?_
 rintro e u ⟨rfl,rfl⟩
 rw [HF.out]
 go_wp2
 go_ret
 exact ⟨rfl,(Below.refl _ w).alloc (Nat.le_refl _) _⟩
set_option maxHeartbeats 2000000 in
theorem refOne2w (op a b n:Int) (ls:List Int) (lo bo eo:Option Addr) (nl nb ne lc bc ec:Nat) (w:World) (hf:form op=2) (hl:Ints w (.slice lo nl lc) ls) (hnl:ls.length=nl) (d0:(b != 0)=false) (d1:(n != 0)=false) (d2:nl=0) (d3:ne=0) (e1:(a == 0)=false) (e2:(a == 126)=false) :
  Calls Tryz.prog 123 #[.agg #[.int .i64 op,.int .i64 a,.int .i64 b,.int .i64 n,.slice lo nl lc,.slice bo nb bc,.slice eo ne ec]] w fun e w'=>e=.returned (.bool (a == 127))/\Below w.heap.size w w':=by
 have hlen:=hl.1
 have HL:=hideM hl
 have HF:=hideM hf
 have HNL:=hideM hnl
 rw [hnl] at hlen
 clear hl hf hnl
 subst d2
 subst d3
 go_enter Tryz.func123,Tryz.ntmps123
 go_wp2_with fail
 refine (refForm _ _).mono ?_
 rintro e u ⟨rfl,rfl⟩
 rw [HF.out]
 go_wp2
 go_ret
 exact ⟨rfl,(Below.refl _ w).alloc (Nat.le_refl _) _⟩
set_option maxHeartbeats 2000000 in
theorem refOne3xb (op a b n:Int) (ls:List Int) (lo bo eo:Option Addr) (nl nb ne lc bc ec:Nat) (w:World) (hf:form op=3) (hl:Ints w (.slice lo nl lc) ls) (hnl:ls.length=nl) (d0:(b != 0)=true) :
  Calls Tryz.prog 123 #[.agg #[.int .i64 op,.int .i64 a,.int .i64 b,.int .i64 n,.slice lo nl lc,.slice bo nb bc,.slice eo ne ec]] w fun e w'=>e=.returned (.bool false)/\Below w.heap.size w w':=by
 have hlen:=hl.1
 have HL:=hideM hl
 have HF:=hideM hf
 have HNL:=hideM hnl
 rw [hnl] at hlen
 clear hl hf hnl
 go_enter Tryz.func123,Tryz.ntmps123
 go_wp2_with fail
 refine (refForm _ _).mono ?_
 rintro e u ⟨rfl,rfl⟩
 rw [HF.out]
 go_wp2
 go_ret
 exact ⟨rfl,(Below.refl _ w).alloc (Nat.le_refl _) _⟩
set_option maxHeartbeats 2000000 in
theorem refOne3xn (op a b n:Int) (ls:List Int) (lo bo eo:Option Addr) (nl nb ne lc bc ec:Nat) (w:World) (hf:form op=3) (hl:Ints w (.slice lo nl lc) ls) (hnl:ls.length=nl) (d0:(b != 0)=false) (d1:(n != 0)=true) :
  Calls Tryz.prog 123 #[.agg #[.int .i64 op,.int .i64 a,.int .i64 b,.int .i64 n,.slice lo nl lc,.slice bo nb bc,.slice eo ne ec]] w fun e w'=>e=.returned (.bool false)/\Below w.heap.size w w':=by
 have hlen:=hl.1
 have HL:=hideM hl
 have HF:=hideM hf
 have HNL:=hideM hnl
 rw [hnl] at hlen
 clear hl hf hnl
 go_enter Tryz.func123,Tryz.ntmps123
 go_wp2_with fail
 refine (refForm _ _).mono ?_
 rintro e u ⟨rfl,rfl⟩
 rw [HF.out]
 go_wp2
 go_ret
 exact ⟨rfl,(Below.refl _ w).alloc (Nat.le_refl _) _⟩
set_option maxHeartbeats 2000000 in
theorem refOne3xlabels (op a b n:Int) (ls:List Int) (lo bo eo:Option Addr) (nl nb ne lc bc ec:Nat) (w:World) (hf:form op=3) (hl:Ints w (.slice lo nl lc) ls) (hnl:ls.length=nl) (d0:(b != 0)=false) (d1:(n != 0)=false) (d2:0<nl) :
  Calls Tryz.prog 123 #[.agg #[.int .i64 op,.int .i64 a,.int .i64 b,.int .i64 n,.slice lo nl lc,.slice bo nb bc,.slice eo ne ec]] w fun e w'=>e=.returned (.bool false)/\Below w.heap.size w w':=by
 have hlen:=hl.1
 have HL:=hideM hl
 have HF:=hideM hf
 have HNL:=hideM hnl
 rw [hnl] at hlen
 clear hl hf hnl
 have d2a:¬ nl=0:=by omega
 have d2b:(0:Int)<(nl:Int):=by omega
 go_enter Tryz.func123,Tryz.ntmps123
 go_wp2_with fail
 refine (refForm _ _).mono ?_
 rintro e u ⟨rfl,rfl⟩
 rw [HF.out]
 go_wp2
 go_ret
 exact ⟨rfl,(Below.refl _ w).alloc (Nat.le_refl _) _⟩
set_option maxHeartbeats 2000000 in
theorem refOne3z (op a b n:Int) (ls:List Int) (lo bo eo:Option Addr) (nl nb ne lc bc ec:Nat) (w:World) (hf:form op=3) (hl:Ints w (.slice lo nl lc) ls) (hnl:ls.length=nl) (d0:(b != 0)=false) (d1:(n != 0)=false) (d2:nl=0) (e1:(a == 0)=true) :
  Calls Tryz.prog 123 #[.agg #[.int .i64 op,.int .i64 a,.int .i64 b,.int .i64 n,.slice lo nl lc,.slice bo nb bc,.slice eo ne ec]] w fun e w'=>e=.returned (.bool true)/\Below w.heap.size w w':=by
 have hlen:=hl.1
 have HL:=hideM hl
 have HF:=hideM hf
 have HNL:=hideM hnl
 rw [hnl] at hlen
 clear hl hf hnl
 subst d2
 go_enter Tryz.func123,Tryz.ntmps123
 go_wp2_with fail
 refine (refForm _ _).mono ?_
 rintro e u ⟨rfl,rfl⟩
 rw [HF.out]
 go_wp2
 go_ret
 exact ⟨rfl,(Below.refl _ w).alloc (Nat.le_refl _) _⟩
set_option maxHeartbeats 2000000 in
theorem refOne3y (op a b n:Int) (ls:List Int) (lo bo eo:Option Addr) (nl nb ne lc bc ec:Nat) (w:World) (hf:form op=3) (hl:Ints w (.slice lo nl lc) ls) (hnl:ls.length=nl) (d0:(b != 0)=false) (d1:(n != 0)=false) (d2:nl=0) (e1:(a == 0)=false) (e2:(a == 126)=true) :
  Calls Tryz.prog 123 #[.agg #[.int .i64 op,.int .i64 a,.int .i64 b,.int .i64 n,.slice lo nl lc,.slice bo nb bc,.slice eo ne ec]] w fun e w'=>e=.returned (.bool true)/\Below w.heap.size w w':=by
 have hlen:=hl.1
 have HL:=hideM hl
 have HF:=hideM hf
 have HNL:=hideM hnl
 rw [hnl] at hlen
 clear hl hf hnl
 subst d2
 go_enter Tryz.func123,Tryz.ntmps123
 go_wp2_with fail
 refine (refForm _ _).mono ?_
 rintro e u ⟨rfl,rfl⟩
 rw [HF.out]
 go_wp2
 go_ret
 exact ⟨rfl,(Below.refl _ w).alloc (Nat.le_refl _) _⟩
set_option maxHeartbeats 2000000 in
theorem refOne3w (op a b n:Int) (ls:List Int) (lo bo eo:Option Addr) (nl nb ne lc bc ec:Nat) (w:World) (hf:form op=3) (hl:Ints w (.slice lo nl lc) ls) (hnl:ls.length=nl) (d0:(b != 0)=false) (d1:(n != 0)=false) (d2:nl=0) (e1:(a == 0)=false) (e2:(a == 126)=false) :
  Calls Tryz.prog 123 #[.agg #[.int .i64 op,.int .i64 a,.int .i64 b,.int .i64 n,.slice lo nl lc,.slice bo nb bc,.slice eo ne ec]] w fun e w'=>e=.returned (.bool (a == 127))/\Below w.heap.size w w':=by
 have hlen:=hl.1
 have HL:=hideM hl
 have HF:=hideM hf
 have HNL:=hideM hnl
 rw [hnl] at hlen
 clear hl hf hnl
 subst d2
 go_enter Tryz.func123,Tryz.ntmps123
 go_wp2_with fail
 refine (refForm _ _).mono ?_
 rintro e u ⟨rfl,rfl⟩
 rw [HF.out]
 go_wp2
 go_ret
 exact ⟨rfl,(Below.refl _ w).alloc (Nat.le_refl _) _⟩
set_option maxHeartbeats 2000000 in
theorem refOne4xb (op a b n:Int) (ls:List Int) (lo bo eo:Option Addr) (nl nb ne lc bc ec:Nat) (w:World) (hf:form op=4) (hl:Ints w (.slice lo nl lc) ls) (hnl:ls.length=nl) (d0:(b != 0)=true) :
  Calls Tryz.prog 123 #[.agg #[.int .i64 op,.int .i64 a,.int .i64 b,.int .i64 n,.slice lo nl lc,.slice bo nb bc,.slice eo ne ec]] w fun e w'=>e=.returned (.bool false)/\Below w.heap.size w w':=by
 have hlen:=hl.1
 have HL:=hideM hl
 have HF:=hideM hf
 have HNL:=hideM hnl
 rw [hnl] at hlen
 clear hl hf hnl
 go_enter Tryz.func123,Tryz.ntmps123
 go_wp2_with fail
 refine (refForm _ _).mono ?_
 rintro e u ⟨rfl,rfl⟩
 rw [HF.out]
 go_wp2
 go_ret
 exact ⟨rfl,(Below.refl _ w).alloc (Nat.le_refl _) _⟩
set_option maxHeartbeats 2000000 in
theorem refOne4xn (op a b n:Int) (ls:List Int) (lo bo eo:Option Addr) (nl nb ne lc bc ec:Nat) (w:World) (hf:form op=4) (hl:Ints w (.slice lo nl lc) ls) (hnl:ls.length=nl) (d0:(b != 0)=false) (d1:(n != 0)=true) :
  Calls Tryz.prog 123 #[.agg #[.int .i64 op,.int .i64 a,.int .i64 b,.int .i64 n,.slice lo nl lc,.slice bo nb bc,.slice eo ne ec]] w fun e w'=>e=.returned (.bool false)/\Below w.heap.size w w':=by
 have hlen:=hl.1
 have HL:=hideM hl
 have HF:=hideM hf
 have HNL:=hideM hnl
 rw [hnl] at hlen
 clear hl hf hnl
 go_enter Tryz.func123,Tryz.ntmps123
 go_wp2_with fail
 refine (refForm _ _).mono ?_
 rintro e u ⟨rfl,rfl⟩
 rw [HF.out]
 go_wp2
 go_ret
 exact ⟨rfl,(Below.refl _ w).alloc (Nat.le_refl _) _⟩
set_option maxHeartbeats 2000000 in
theorem refOne4xlabels (op a b n:Int) (ls:List Int) (lo bo eo:Option Addr) (nl nb ne lc bc ec:Nat) (w:World) (hf:form op=4) (hl:Ints w (.slice lo nl lc) ls) (hnl:ls.length=nl) (d0:(b != 0)=false) (d1:(n != 0)=false) (d2:0<nl) :
  Calls Tryz.prog 123 #[.agg #[.int .i64 op,.int .i64 a,.int .i64 b,.int .i64 n,.slice lo nl lc,.slice bo nb bc,.slice eo ne ec]] w fun e w'=>e=.returned (.bool false)/\Below w.heap.size w w':=by
 have hlen:=hl.1
 have HL:=hideM hl
 have HF:=hideM hf
 have HNL:=hideM hnl
 rw [hnl] at hlen
 clear hl hf hnl
 have d2a:¬ nl=0:=by omega
 have d2b:(0:Int)<(nl:Int):=by omega
 go_enter Tryz.func123,Tryz.ntmps123
 go_wp2_with fail
 refine (refForm _ _).mono ?_
 rintro e u ⟨rfl,rfl⟩
 rw [HF.out]
 go_wp2
 go_ret
 exact ⟨rfl,(Below.refl _ w).alloc (Nat.le_refl _) _⟩
set_option maxHeartbeats 2000000 in
theorem refOne4xbody (op a b n:Int) (ls:List Int) (lo bo eo:Option Addr) (nl nb ne lc bc ec:Nat) (w:World) (hf:form op=4) (hl:Ints w (.slice lo nl lc) ls) (hnl:ls.length=nl) (d0:(b != 0)=false) (d1:(n != 0)=false) (d2:nl=0) (d3:0<nb) :
  Calls Tryz.prog 123 #[.agg #[.int .i64 op,.int .i64 a,.int .i64 b,.int .i64 n,.slice lo nl lc,.slice bo nb bc,.slice eo ne ec]] w fun e w'=>e=.returned (.bool false)/\Below w.heap.size w w':=by
 have hlen:=hl.1
 have HL:=hideM hl
 have HF:=hideM hf
 have HNL:=hideM hnl
 rw [hnl] at hlen
 clear hl hf hnl
 have d3a:¬ nb=0:=by omega
 have d3b:(0:Int)<(nb:Int):=by omega
 subst d2
 go_enter Tryz.func123,Tryz.ntmps123
 go_wp2_with fail
 refine (refForm _ _).mono ?_
 rintro e u ⟨rfl,rfl⟩
 rw [HF.out]
 go_wp2
 go_ret
 exact ⟨rfl,(Below.refl _ w).alloc (Nat.le_refl _) _⟩
set_option maxHeartbeats 2000000 in
theorem refOne4xels (op a b n:Int) (ls:List Int) (lo bo eo:Option Addr) (nl nb ne lc bc ec:Nat) (w:World) (hf:form op=4) (hl:Ints w (.slice lo nl lc) ls) (hnl:ls.length=nl) (d0:(b != 0)=false) (d1:(n != 0)=false) (d2:nl=0) (d3:nb=0) (d4:0<ne) :
  Calls Tryz.prog 123 #[.agg #[.int .i64 op,.int .i64 a,.int .i64 b,.int .i64 n,.slice lo nl lc,.slice bo nb bc,.slice eo ne ec]] w fun e w'=>e=.returned (.bool false)/\Below w.heap.size w w':=by
 have hlen:=hl.1
 have HL:=hideM hl
 have HF:=hideM hf
 have HNL:=hideM hnl
 rw [hnl] at hlen
 clear hl hf hnl
 have d4a:¬ ne=0:=by omega
 have d4b:(0:Int)<(ne:Int):=by omega
 subst d2
 subst d3
 go_enter Tryz.func123,Tryz.ntmps123
 go_wp2_with fail
 refine (refForm _ _).mono ?_
 rintro e u ⟨rfl,rfl⟩
 rw [HF.out]
 go_wp2
 go_ret
 exact ⟨rfl,(Below.refl _ w).alloc (Nat.le_refl _) _⟩
set_option maxHeartbeats 2000000 in
theorem refOne4e (op a b n:Int) (ls:List Int) (lo bo eo:Option Addr) (nl nb ne lc bc ec:Nat) (w:World) (hf:form op=4) (hl:Ints w (.slice lo nl lc) ls) (hnl:ls.length=nl) (d0:(b != 0)=false) (d1:(n != 0)=false) (d2:nl=0) (d3:nb=0) (d4:ne=0) (s1:¬ op=65) :
  Calls Tryz.prog 123 #[.agg #[.int .i64 op,.int .i64 a,.int .i64 b,.int .i64 n,.slice lo nl lc,.slice bo nb bc,.slice eo ne ec]] w fun e w'=>e=.returned (.bool (idx a && (idx b && ls.all idx)))/\Below w.heap.size w w':=by
 have hlen:=hl.1
 have HL:=hideM hl
 have HF:=hideM hf
 have HNL:=hideM hnl
 rw [hnl] at hlen
 clear hl hf hnl
 subst d2
 subst d3
 subst d4
 have s1b:(op == 65)=false:=by simp [s1]
 have i1:=hideM fun (w:World)=>refIndex a w
 have i2:=hideM fun (w:World)=>refIndex b w
 have i3:=hideM fun (w':World) (h:Below w.heap.size w w')=>refIndices _ ls w' (HL.out.on h)
 generalize idx a=r1 at *
 generalize idx b=r2 at *
 generalize ls.all idx=r3 at *
 go_enter Tryz.func123,Tryz.ntmps123
 go_wp2_with fail
 refine (refForm _ _).mono ?_
 rintro e u ⟨rfl,rfl⟩
 rw [HF.out]
 go_wp2_with fail
 refine (i1.out _).mono ?_
 rintro e u ⟨rfl,rfl⟩
 cases r1
 ·go_wp2
  go_ret
  exact ⟨rfl,(Below.refl _ w).alloc (Nat.le_refl _) _⟩
 ·go_wp2_with fail
  refine (i2.out _).mono ?_
  rintro e u ⟨rfl,rfl⟩
  cases r2
  ·go_wp2
   go_ret
   exact ⟨rfl,(Below.refl _ w).alloc (Nat.le_refl _) _⟩
  ·go_wp2_with fail
   refine (i3.out _ ((Below.refl _ w).alloc (Nat.le_refl _) _)).mono ?_
   rintro e u ⟨rfl,rfl⟩
   go_wp2
   go_ret
   exact ⟨rfl,(Below.refl _ w).alloc (Nat.le_refl _) _⟩
set_option maxHeartbeats 2000000 in
theorem refOne5xb (op a b n:Int) (ls:List Int) (lo bo eo:Option Addr) (nl nb ne lc bc ec:Nat) (w:World) (hf:form op=5) (hl:Ints w (.slice lo nl lc) ls) (hnl:ls.length=nl) (d0:(b != 0)=true) :
  Calls Tryz.prog 123 #[.agg #[.int .i64 op,.int .i64 a,.int .i64 b,.int .i64 n,.slice lo nl lc,.slice bo nb bc,.slice eo ne ec]] w fun e w'=>e=.returned (.bool false)/\Below w.heap.size w w':=by
 have hlen:=hl.1
 have HL:=hideM hl
 have HF:=hideM hf
 have HNL:=hideM hnl
 rw [hnl] at hlen
 clear hl hf hnl
 go_enter Tryz.func123,Tryz.ntmps123
 go_wp2_with fail
 refine (refForm _ _).mono ?_
 rintro e u ⟨rfl,rfl⟩
 rw [HF.out]
 go_wp2
 go_ret
 exact ⟨rfl,(Below.refl _ w).alloc (Nat.le_refl _) _⟩
set_option maxHeartbeats 2000000 in
theorem refOne5xn (op a b n:Int) (ls:List Int) (lo bo eo:Option Addr) (nl nb ne lc bc ec:Nat) (w:World) (hf:form op=5) (hl:Ints w (.slice lo nl lc) ls) (hnl:ls.length=nl) (d0:(b != 0)=false) (d1:(n != 0)=true) :
  Calls Tryz.prog 123 #[.agg #[.int .i64 op,.int .i64 a,.int .i64 b,.int .i64 n,.slice lo nl lc,.slice bo nb bc,.slice eo ne ec]] w fun e w'=>e=.returned (.bool false)/\Below w.heap.size w w':=by
 have hlen:=hl.1
 have HL:=hideM hl
 have HF:=hideM hf
 have HNL:=hideM hnl
 rw [hnl] at hlen
 clear hl hf hnl
 go_enter Tryz.func123,Tryz.ntmps123
 go_wp2_with fail
 refine (refForm _ _).mono ?_
 rintro e u ⟨rfl,rfl⟩
 rw [HF.out]
 go_wp2
 go_ret
 exact ⟨rfl,(Below.refl _ w).alloc (Nat.le_refl _) _⟩
set_option maxHeartbeats 2000000 in
theorem refOne5xbody (op a b n:Int) (ls:List Int) (lo bo eo:Option Addr) (nl nb ne lc bc ec:Nat) (w:World) (hf:form op=5) (hl:Ints w (.slice lo nl lc) ls) (hnl:ls.length=nl) (d0:(b != 0)=false) (d1:(n != 0)=false) (d2:0<nb) :
  Calls Tryz.prog 123 #[.agg #[.int .i64 op,.int .i64 a,.int .i64 b,.int .i64 n,.slice lo nl lc,.slice bo nb bc,.slice eo ne ec]] w fun e w'=>e=.returned (.bool false)/\Below w.heap.size w w':=by
 have hlen:=hl.1
 have HL:=hideM hl
 have HF:=hideM hf
 have HNL:=hideM hnl
 rw [hnl] at hlen
 clear hl hf hnl
 have d2a:¬ nb=0:=by omega
 have d2b:(0:Int)<(nb:Int):=by omega
 go_enter Tryz.func123,Tryz.ntmps123
 go_wp2_with fail
 refine (refForm _ _).mono ?_
 rintro e u ⟨rfl,rfl⟩
 rw [HF.out]
 go_wp2
 go_ret
 exact ⟨rfl,(Below.refl _ w).alloc (Nat.le_refl _) _⟩
set_option maxHeartbeats 2000000 in
theorem refOne5xels (op a b n:Int) (ls:List Int) (lo bo eo:Option Addr) (nl nb ne lc bc ec:Nat) (w:World) (hf:form op=5) (hl:Ints w (.slice lo nl lc) ls) (hnl:ls.length=nl) (d0:(b != 0)=false) (d1:(n != 0)=false) (d2:nb=0) (d3:0<ne) :
  Calls Tryz.prog 123 #[.agg #[.int .i64 op,.int .i64 a,.int .i64 b,.int .i64 n,.slice lo nl lc,.slice bo nb bc,.slice eo ne ec]] w fun e w'=>e=.returned (.bool false)/\Below w.heap.size w w':=by
 have hlen:=hl.1
 have HL:=hideM hl
 have HF:=hideM hf
 have HNL:=hideM hnl
 rw [hnl] at hlen
 clear hl hf hnl
 have d3a:¬ ne=0:=by omega
 have d3b:(0:Int)<(ne:Int):=by omega
 subst d2
 go_enter Tryz.func123,Tryz.ntmps123
 go_wp2_with fail
 refine (refForm _ _).mono ?_
 rintro e u ⟨rfl,rfl⟩
 rw [HF.out]
 go_wp2
 go_ret
 exact ⟨rfl,(Below.refl _ w).alloc (Nat.le_refl _) _⟩
set_option maxHeartbeats 2000000 in
theorem refOne5e (op a b n:Int) (ls:List Int) (lo bo eo:Option Addr) (nl nb ne lc bc ec:Nat) (w:World) (hf:form op=5) (hl:Ints w (.slice lo nl lc) ls) (hnl:ls.length=nl) (d0:(b != 0)=false) (d1:(n != 0)=false) (d2:nb=0) (d3:ne=0) (s1:¬ op=65) :
  Calls Tryz.prog 123 #[.agg #[.int .i64 op,.int .i64 a,.int .i64 b,.int .i64 n,.slice lo nl lc,.slice bo nb bc,.slice eo ne ec]] w fun e w'=>e=.returned (.bool (idx a && (idx b && ls.all idx)))/\Below w.heap.size w w':=by
 have hlen:=hl.1
 have HL:=hideM hl
 have HF:=hideM hf
 have HNL:=hideM hnl
 rw [hnl] at hlen
 clear hl hf hnl
 subst d2
 subst d3
 have s1b:(op == 65)=false:=by simp [s1]
 have i1:=hideM fun (w:World)=>refIndex a w
 have i2:=hideM fun (w:World)=>refIndex b w
 have i3:=hideM fun (w':World) (h:Below w.heap.size w w')=>refIndices _ ls w' (HL.out.on h)
 generalize idx a=r1 at *
 generalize idx b=r2 at *
 generalize ls.all idx=r3 at *
 go_enter Tryz.func123,Tryz.ntmps123
 go_wp2_with fail
 refine (refForm _ _).mono ?_
 rintro e u ⟨rfl,rfl⟩
 rw [HF.out]
 go_wp2_with fail
 refine (i1.out _).mono ?_
 rintro e u ⟨rfl,rfl⟩
 cases r1
 ·go_wp2
  go_ret
  exact ⟨rfl,(Below.refl _ w).alloc (Nat.le_refl _) _⟩
 ·go_wp2_with fail
  refine (i2.out _).mono ?_
  rintro e u ⟨rfl,rfl⟩
  cases r2
  ·go_wp2
   go_ret
   exact ⟨rfl,(Below.refl _ w).alloc (Nat.le_refl _) _⟩
  ·go_wp2_with fail
   refine (i3.out _ ((Below.refl _ w).alloc (Nat.le_refl _) _)).mono ?_
   rintro e u ⟨rfl,rfl⟩
   go_wp2
   go_ret
   exact ⟨rfl,(Below.refl _ w).alloc (Nat.le_refl _) _⟩
set_option maxHeartbeats 2000000 in
theorem refOne6xb (op a b n:Int) (ls:List Int) (lo bo eo:Option Addr) (nl nb ne lc bc ec:Nat) (w:World) (hf:form op=6) (hl:Ints w (.slice lo nl lc) ls) (hnl:ls.length=nl) (d0:(b != 0)=true) :
  Calls Tryz.prog 123 #[.agg #[.int .i64 op,.int .i64 a,.int .i64 b,.int .i64 n,.slice lo nl lc,.slice bo nb bc,.slice eo ne ec]] w fun e w'=>e=.returned (.bool false)/\Below w.heap.size w w':=by
 have hlen:=hl.1
 have HL:=hideM hl
 have HF:=hideM hf
 have HNL:=hideM hnl
 rw [hnl] at hlen
 clear hl hf hnl
 go_enter Tryz.func123,Tryz.ntmps123
 go_wp2_with fail
 refine (refForm _ _).mono ?_
 rintro e u ⟨rfl,rfl⟩
 rw [HF.out]
 go_wp2
 go_ret
 exact ⟨rfl,(Below.refl _ w).alloc (Nat.le_refl _) _⟩
set_option maxHeartbeats 2000000 in
theorem refOne6xn (op a b n:Int) (ls:List Int) (lo bo eo:Option Addr) (nl nb ne lc bc ec:Nat) (w:World) (hf:form op=6) (hl:Ints w (.slice lo nl lc) ls) (hnl:ls.length=nl) (d0:(b != 0)=false) (d1:(n != 0)=true) :
  Calls Tryz.prog 123 #[.agg #[.int .i64 op,.int .i64 a,.int .i64 b,.int .i64 n,.slice lo nl lc,.slice bo nb bc,.slice eo ne ec]] w fun e w'=>e=.returned (.bool false)/\Below w.heap.size w w':=by
 have hlen:=hl.1
 have HL:=hideM hl
 have HF:=hideM hf
 have HNL:=hideM hnl
 rw [hnl] at hlen
 clear hl hf hnl
 go_enter Tryz.func123,Tryz.ntmps123
 go_wp2_with fail
 refine (refForm _ _).mono ?_
 rintro e u ⟨rfl,rfl⟩
 rw [HF.out]
 go_wp2
 go_ret
 exact ⟨rfl,(Below.refl _ w).alloc (Nat.le_refl _) _⟩
set_option maxHeartbeats 2000000 in
theorem refOne6xlabels (op a b n:Int) (ls:List Int) (lo bo eo:Option Addr) (nl nb ne lc bc ec:Nat) (w:World) (hf:form op=6) (hl:Ints w (.slice lo nl lc) ls) (hnl:ls.length=nl) (d0:(b != 0)=false) (d1:(n != 0)=false) (d2:0<nl) :
  Calls Tryz.prog 123 #[.agg #[.int .i64 op,.int .i64 a,.int .i64 b,.int .i64 n,.slice lo nl lc,.slice bo nb bc,.slice eo ne ec]] w fun e w'=>e=.returned (.bool false)/\Below w.heap.size w w':=by
 have hlen:=hl.1
 have HL:=hideM hl
 have HF:=hideM hf
 have HNL:=hideM hnl
 rw [hnl] at hlen
 clear hl hf hnl
 have d2a:¬ nl=0:=by omega
 have d2b:(0:Int)<(nl:Int):=by omega
 go_enter Tryz.func123,Tryz.ntmps123
 go_wp2_with fail
 refine (refForm _ _).mono ?_
 rintro e u ⟨rfl,rfl⟩
 rw [HF.out]
 go_wp2
 go_ret
 exact ⟨rfl,(Below.refl _ w).alloc (Nat.le_refl _) _⟩
set_option maxHeartbeats 2000000 in
theorem refOne6xbody (op a b n:Int) (ls:List Int) (lo bo eo:Option Addr) (nl nb ne lc bc ec:Nat) (w:World) (hf:form op=6) (hl:Ints w (.slice lo nl lc) ls) (hnl:ls.length=nl) (d0:(b != 0)=false) (d1:(n != 0)=false) (d2:nl=0) (d3:0<nb) :
  Calls Tryz.prog 123 #[.agg #[.int .i64 op,.int .i64 a,.int .i64 b,.int .i64 n,.slice lo nl lc,.slice bo nb bc,.slice eo ne ec]] w fun e w'=>e=.returned (.bool false)/\Below w.heap.size w w':=by
 have hlen:=hl.1
 have HL:=hideM hl
 have HF:=hideM hf
 have HNL:=hideM hnl
 rw [hnl] at hlen
 clear hl hf hnl
 have d3a:¬ nb=0:=by omega
 have d3b:(0:Int)<(nb:Int):=by omega
 subst d2
 go_enter Tryz.func123,Tryz.ntmps123
 go_wp2_with fail
 refine (refForm _ _).mono ?_
 rintro e u ⟨rfl,rfl⟩
 rw [HF.out]
 go_wp2
 go_ret
 exact ⟨rfl,(Below.refl _ w).alloc (Nat.le_refl _) _⟩
set_option maxHeartbeats 2000000 in
theorem refOne6xels (op a b n:Int) (ls:List Int) (lo bo eo:Option Addr) (nl nb ne lc bc ec:Nat) (w:World) (hf:form op=6) (hl:Ints w (.slice lo nl lc) ls) (hnl:ls.length=nl) (d0:(b != 0)=false) (d1:(n != 0)=false) (d2:nl=0) (d3:nb=0) (d4:0<ne) :
  Calls Tryz.prog 123 #[.agg #[.int .i64 op,.int .i64 a,.int .i64 b,.int .i64 n,.slice lo nl lc,.slice bo nb bc,.slice eo ne ec]] w fun e w'=>e=.returned (.bool false)/\Below w.heap.size w w':=by
 have hlen:=hl.1
 have HL:=hideM hl
 have HF:=hideM hf
 have HNL:=hideM hnl
 rw [hnl] at hlen
 clear hl hf hnl
 have d4a:¬ ne=0:=by omega
 have d4b:(0:Int)<(ne:Int):=by omega
 subst d2
 subst d3
 go_enter Tryz.func123,Tryz.ntmps123
 go_wp2_with fail
 refine (refForm _ _).mono ?_
 rintro e u ⟨rfl,rfl⟩
 rw [HF.out]
 go_wp2
 go_ret
 exact ⟨rfl,(Below.refl _ w).alloc (Nat.le_refl _) _⟩
set_option maxHeartbeats 2000000 in
theorem refOne6e (op a b n:Int) (ls:List Int) (lo bo eo:Option Addr) (nl nb ne lc bc ec:Nat) (w:World) (hf:form op=6) (hl:Ints w (.slice lo nl lc) ls) (hnl:ls.length=nl) (d0:(b != 0)=false) (d1:(n != 0)=false) (d2:nl=0) (d3:nb=0) (d4:ne=0) (s1:¬ op=65) :
  Calls Tryz.prog 123 #[.agg #[.int .i64 op,.int .i64 a,.int .i64 b,.int .i64 n,.slice lo nl lc,.slice bo nb bc,.slice eo ne ec]] w fun e w'=>e=.returned (.bool (idx a && (idx b && ls.all idx)))/\Below w.heap.size w w':=by
 have hlen:=hl.1
 have HL:=hideM hl
 have HF:=hideM hf
 have HNL:=hideM hnl
 rw [hnl] at hlen
 clear hl hf hnl
 subst d2
 subst d3
 subst d4
 have s1b:(op == 65)=false:=by simp [s1]
 have i1:=hideM fun (w:World)=>refIndex a w
 have i2:=hideM fun (w:World)=>refIndex b w
 have i3:=hideM fun (w':World) (h:Below w.heap.size w w')=>refIndices _ ls w' (HL.out.on h)
 generalize idx a=r1 at *
 generalize idx b=r2 at *
 generalize ls.all idx=r3 at *
 go_enter Tryz.func123,Tryz.ntmps123
 go_wp2_with fail
 refine (refForm _ _).mono ?_
 rintro e u ⟨rfl,rfl⟩
 rw [HF.out]
 go_wp2_with fail
 refine (i1.out _).mono ?_
 rintro e u ⟨rfl,rfl⟩
 cases r1
 ·go_wp2
  go_ret
  exact ⟨rfl,(Below.refl _ w).alloc (Nat.le_refl _) _⟩
 ·go_wp2_with fail
  refine (i2.out _).mono ?_
  rintro e u ⟨rfl,rfl⟩
  cases r2
  ·go_wp2
   go_ret
   exact ⟨rfl,(Below.refl _ w).alloc (Nat.le_refl _) _⟩
  ·go_wp2_with fail
   refine (i3.out _ ((Below.refl _ w).alloc (Nat.le_refl _) _)).mono ?_
   rintro e u ⟨rfl,rfl⟩
   go_wp2
   go_ret
   exact ⟨rfl,(Below.refl _ w).alloc (Nat.le_refl _) _⟩
set_option maxHeartbeats 2000000 in
theorem refOne7xb (op a b n:Int) (ls:List Int) (lo bo eo:Option Addr) (nl nb ne lc bc ec:Nat) (w:World) (hf:form op=7) (hl:Ints w (.slice lo nl lc) ls) (hnl:ls.length=nl) (d0:(b != 0)=true) :
  Calls Tryz.prog 123 #[.agg #[.int .i64 op,.int .i64 a,.int .i64 b,.int .i64 n,.slice lo nl lc,.slice bo nb bc,.slice eo ne ec]] w fun e w'=>e=.returned (.bool false)/\Below w.heap.size w w':=by
 have hlen:=hl.1
 have HL:=hideM hl
 have HF:=hideM hf
 have HNL:=hideM hnl
 rw [hnl] at hlen
 clear hl hf hnl
 go_enter Tryz.func123,Tryz.ntmps123
 go_wp2_with fail
 refine (refForm _ _).mono ?_
 rintro e u ⟨rfl,rfl⟩
 rw [HF.out]
 go_wp2
 go_ret
 exact ⟨rfl,(Below.refl _ w).alloc (Nat.le_refl _) _⟩
set_option maxHeartbeats 2000000 in
theorem refOne7xn (op a b n:Int) (ls:List Int) (lo bo eo:Option Addr) (nl nb ne lc bc ec:Nat) (w:World) (hf:form op=7) (hl:Ints w (.slice lo nl lc) ls) (hnl:ls.length=nl) (d0:(b != 0)=false) (d1:(n != 0)=true) :
  Calls Tryz.prog 123 #[.agg #[.int .i64 op,.int .i64 a,.int .i64 b,.int .i64 n,.slice lo nl lc,.slice bo nb bc,.slice eo ne ec]] w fun e w'=>e=.returned (.bool false)/\Below w.heap.size w w':=by
 have hlen:=hl.1
 have HL:=hideM hl
 have HF:=hideM hf
 have HNL:=hideM hnl
 rw [hnl] at hlen
 clear hl hf hnl
 go_enter Tryz.func123,Tryz.ntmps123
 go_wp2_with fail
 refine (refForm _ _).mono ?_
 rintro e u ⟨rfl,rfl⟩
 rw [HF.out]
 go_wp2
 go_ret
 exact ⟨rfl,(Below.refl _ w).alloc (Nat.le_refl _) _⟩
set_option maxHeartbeats 2000000 in
theorem refOne7xlabels (op a b n:Int) (ls:List Int) (lo bo eo:Option Addr) (nl nb ne lc bc ec:Nat) (w:World) (hf:form op=7) (hl:Ints w (.slice lo nl lc) ls) (hnl:ls.length=nl) (d0:(b != 0)=false) (d1:(n != 0)=false) (d2:0<nl) :
  Calls Tryz.prog 123 #[.agg #[.int .i64 op,.int .i64 a,.int .i64 b,.int .i64 n,.slice lo nl lc,.slice bo nb bc,.slice eo ne ec]] w fun e w'=>e=.returned (.bool false)/\Below w.heap.size w w':=by
 have hlen:=hl.1
 have HL:=hideM hl
 have HF:=hideM hf
 have HNL:=hideM hnl
 rw [hnl] at hlen
 clear hl hf hnl
 have d2a:¬ nl=0:=by omega
 have d2b:(0:Int)<(nl:Int):=by omega
 go_enter Tryz.func123,Tryz.ntmps123
 go_wp2_with fail
 refine (refForm _ _).mono ?_
 rintro e u ⟨rfl,rfl⟩
 rw [HF.out]
 go_wp2
 go_ret
 exact ⟨rfl,(Below.refl _ w).alloc (Nat.le_refl _) _⟩
set_option maxHeartbeats 2000000 in
theorem refOne7xbody (op a b n:Int) (ls:List Int) (lo bo eo:Option Addr) (nl nb ne lc bc ec:Nat) (w:World) (hf:form op=7) (hl:Ints w (.slice lo nl lc) ls) (hnl:ls.length=nl) (d0:(b != 0)=false) (d1:(n != 0)=false) (d2:nl=0) (d3:0<nb) :
  Calls Tryz.prog 123 #[.agg #[.int .i64 op,.int .i64 a,.int .i64 b,.int .i64 n,.slice lo nl lc,.slice bo nb bc,.slice eo ne ec]] w fun e w'=>e=.returned (.bool false)/\Below w.heap.size w w':=by
 have hlen:=hl.1
 have HL:=hideM hl
 have HF:=hideM hf
 have HNL:=hideM hnl
 rw [hnl] at hlen
 clear hl hf hnl
 have d3a:¬ nb=0:=by omega
 have d3b:(0:Int)<(nb:Int):=by omega
 subst d2
 go_enter Tryz.func123,Tryz.ntmps123
 go_wp2_with fail
 refine (refForm _ _).mono ?_
 rintro e u ⟨rfl,rfl⟩
 rw [HF.out]
 go_wp2
 go_ret
 exact ⟨rfl,(Below.refl _ w).alloc (Nat.le_refl _) _⟩
set_option maxHeartbeats 2000000 in
theorem refOne7xels (op a b n:Int) (ls:List Int) (lo bo eo:Option Addr) (nl nb ne lc bc ec:Nat) (w:World) (hf:form op=7) (hl:Ints w (.slice lo nl lc) ls) (hnl:ls.length=nl) (d0:(b != 0)=false) (d1:(n != 0)=false) (d2:nl=0) (d3:nb=0) (d4:0<ne) :
  Calls Tryz.prog 123 #[.agg #[.int .i64 op,.int .i64 a,.int .i64 b,.int .i64 n,.slice lo nl lc,.slice bo nb bc,.slice eo ne ec]] w fun e w'=>e=.returned (.bool false)/\Below w.heap.size w w':=by
 have hlen:=hl.1
 have HL:=hideM hl
 have HF:=hideM hf
 have HNL:=hideM hnl
 rw [hnl] at hlen
 clear hl hf hnl
 have d4a:¬ ne=0:=by omega
 have d4b:(0:Int)<(ne:Int):=by omega
 subst d2
 subst d3
 go_enter Tryz.func123,Tryz.ntmps123
 go_wp2_with fail
 refine (refForm _ _).mono ?_
 rintro e u ⟨rfl,rfl⟩
 rw [HF.out]
 go_wp2
 go_ret
 exact ⟨rfl,(Below.refl _ w).alloc (Nat.le_refl _) _⟩
set_option maxHeartbeats 2000000 in
theorem refOne7e (op a b n:Int) (ls:List Int) (lo bo eo:Option Addr) (nl nb ne lc bc ec:Nat) (w:World) (hf:form op=7) (hl:Ints w (.slice lo nl lc) ls) (hnl:ls.length=nl) (d0:(b != 0)=false) (d1:(n != 0)=false) (d2:nl=0) (d3:nb=0) (d4:ne=0) (s1:¬ op=65) :
  Calls Tryz.prog 123 #[.agg #[.int .i64 op,.int .i64 a,.int .i64 b,.int .i64 n,.slice lo nl lc,.slice bo nb bc,.slice eo ne ec]] w fun e w'=>e=.returned (.bool (idx a && (idx b && ls.all idx)))/\Below w.heap.size w w':=by
 have hlen:=hl.1
 have HL:=hideM hl
 have HF:=hideM hf
 have HNL:=hideM hnl
 rw [hnl] at hlen
 clear hl hf hnl
 subst d2
 subst d3
 subst d4
 have s1b:(op == 65)=false:=by simp [s1]
 have i1:=hideM fun (w:World)=>refIndex a w
 have i2:=hideM fun (w:World)=>refIndex b w
 have i3:=hideM fun (w':World) (h:Below w.heap.size w w')=>refIndices _ ls w' (HL.out.on h)
 generalize idx a=r1 at *
 generalize idx b=r2 at *
 generalize ls.all idx=r3 at *
 go_enter Tryz.func123,Tryz.ntmps123
 go_wp2_with fail
 refine (refForm _ _).mono ?_
 rintro e u ⟨rfl,rfl⟩
 rw [HF.out]
 go_wp2_with fail
 refine (i1.out _).mono ?_
 rintro e u ⟨rfl,rfl⟩
 cases r1
 ·go_wp2
  go_ret
  exact ⟨rfl,(Below.refl _ w).alloc (Nat.le_refl _) _⟩
 ·go_wp2_with fail
  refine (i2.out _).mono ?_
  rintro e u ⟨rfl,rfl⟩
  cases r2
  ·go_wp2
   go_ret
   exact ⟨rfl,(Below.refl _ w).alloc (Nat.le_refl _) _⟩
  ·go_wp2_with fail
   refine (i3.out _ ((Below.refl _ w).alloc (Nat.le_refl _) _)).mono ?_
   rintro e u ⟨rfl,rfl⟩
   go_wp2
   go_ret
   exact ⟨rfl,(Below.refl _ w).alloc (Nat.le_refl _) _⟩
set_option maxHeartbeats 2000000 in
theorem refOne8xn (op a b n:Int) (ls:List Int) (lo bo eo:Option Addr) (nl nb ne lc bc ec:Nat) (w:World) (hf:form op=8) (hl:Ints w (.slice lo nl lc) ls) (hnl:ls.length=nl) (d0:(n != 0)=true) :
  Calls Tryz.prog 123 #[.agg #[.int .i64 op,.int .i64 a,.int .i64 b,.int .i64 n,.slice lo nl lc,.slice bo nb bc,.slice eo ne ec]] w fun e w'=>e=.returned (.bool false)/\Below w.heap.size w w':=by
 have hlen:=hl.1
 have HL:=hideM hl
 have HF:=hideM hf
 have HNL:=hideM hnl
 rw [hnl] at hlen
 clear hl hf hnl
 go_enter Tryz.func123,Tryz.ntmps123
 go_wp2_with fail
 refine (refForm _ _).mono ?_
 rintro e u ⟨rfl,rfl⟩
 rw [HF.out]
 go_wp2
 go_ret
 exact ⟨rfl,(Below.refl _ w).alloc (Nat.le_refl _) _⟩
set_option maxHeartbeats 2000000 in
theorem refOne8xlabels (op a b n:Int) (ls:List Int) (lo bo eo:Option Addr) (nl nb ne lc bc ec:Nat) (w:World) (hf:form op=8) (hl:Ints w (.slice lo nl lc) ls) (hnl:ls.length=nl) (d0:(n != 0)=false) (d1:0<nl) :
  Calls Tryz.prog 123 #[.agg #[.int .i64 op,.int .i64 a,.int .i64 b,.int .i64 n,.slice lo nl lc,.slice bo nb bc,.slice eo ne ec]] w fun e w'=>e=.returned (.bool false)/\Below w.heap.size w w':=by
 have hlen:=hl.1
 have HL:=hideM hl
 have HF:=hideM hf
 have HNL:=hideM hnl
 rw [hnl] at hlen
 clear hl hf hnl
 have d1a:¬ nl=0:=by omega
 have d1b:(0:Int)<(nl:Int):=by omega
 go_enter Tryz.func123,Tryz.ntmps123
 go_wp2_with fail
 refine (refForm _ _).mono ?_
 rintro e u ⟨rfl,rfl⟩
 rw [HF.out]
 go_wp2
 go_ret
 exact ⟨rfl,(Below.refl _ w).alloc (Nat.le_refl _) _⟩
set_option maxHeartbeats 2000000 in
theorem refOne8xbody (op a b n:Int) (ls:List Int) (lo bo eo:Option Addr) (nl nb ne lc bc ec:Nat) (w:World) (hf:form op=8) (hl:Ints w (.slice lo nl lc) ls) (hnl:ls.length=nl) (d0:(n != 0)=false) (d1:nl=0) (d2:0<nb) :
  Calls Tryz.prog 123 #[.agg #[.int .i64 op,.int .i64 a,.int .i64 b,.int .i64 n,.slice lo nl lc,.slice bo nb bc,.slice eo ne ec]] w fun e w'=>e=.returned (.bool false)/\Below w.heap.size w w':=by
 have hlen:=hl.1
 have HL:=hideM hl
 have HF:=hideM hf
 have HNL:=hideM hnl
 rw [hnl] at hlen
 clear hl hf hnl
 have d2a:¬ nb=0:=by omega
 have d2b:(0:Int)<(nb:Int):=by omega
 subst d1
 go_enter Tryz.func123,Tryz.ntmps123
 go_wp2_with fail
 refine (refForm _ _).mono ?_
 rintro e u ⟨rfl,rfl⟩
 rw [HF.out]
 go_wp2
 go_ret
 exact ⟨rfl,(Below.refl _ w).alloc (Nat.le_refl _) _⟩
set_option maxHeartbeats 2000000 in
theorem refOne8xels (op a b n:Int) (ls:List Int) (lo bo eo:Option Addr) (nl nb ne lc bc ec:Nat) (w:World) (hf:form op=8) (hl:Ints w (.slice lo nl lc) ls) (hnl:ls.length=nl) (d0:(n != 0)=false) (d1:nl=0) (d2:nb=0) (d3:0<ne) :
  Calls Tryz.prog 123 #[.agg #[.int .i64 op,.int .i64 a,.int .i64 b,.int .i64 n,.slice lo nl lc,.slice bo nb bc,.slice eo ne ec]] w fun e w'=>e=.returned (.bool false)/\Below w.heap.size w w':=by
 have hlen:=hl.1
 have HL:=hideM hl
 have HF:=hideM hf
 have HNL:=hideM hnl
 rw [hnl] at hlen
 clear hl hf hnl
 have d3a:¬ ne=0:=by omega
 have d3b:(0:Int)<(ne:Int):=by omega
 subst d1
 subst d2
 go_enter Tryz.func123,Tryz.ntmps123
 go_wp2_with fail
 refine (refForm _ _).mono ?_
 rintro e u ⟨rfl,rfl⟩
 rw [HF.out]
 go_wp2
 go_ret
 exact ⟨rfl,(Below.refl _ w).alloc (Nat.le_refl _) _⟩
set_option maxHeartbeats 2000000 in
theorem refOne8e (op a b n:Int) (ls:List Int) (lo bo eo:Option Addr) (nl nb ne lc bc ec:Nat) (w:World) (hf:form op=8) (hl:Ints w (.slice lo nl lc) ls) (hnl:ls.length=nl) (d0:(n != 0)=false) (d1:nl=0) (d2:nb=0) (d3:ne=0) (s1:¬ op=65) :
  Calls Tryz.prog 123 #[.agg #[.int .i64 op,.int .i64 a,.int .i64 b,.int .i64 n,.slice lo nl lc,.slice bo nb bc,.slice eo ne ec]] w fun e w'=>e=.returned (.bool (idx a && (idx b && ls.all idx)))/\Below w.heap.size w w':=by
 have hlen:=hl.1
 have HL:=hideM hl
 have HF:=hideM hf
 have HNL:=hideM hnl
 rw [hnl] at hlen
 clear hl hf hnl
 subst d1
 subst d2
 subst d3
 have s1b:(op == 65)=false:=by simp [s1]
 have i1:=hideM fun (w:World)=>refIndex a w
 have i2:=hideM fun (w:World)=>refIndex b w
 have i3:=hideM fun (w':World) (h:Below w.heap.size w w')=>refIndices _ ls w' (HL.out.on h)
 generalize idx a=r1 at *
 generalize idx b=r2 at *
 generalize ls.all idx=r3 at *
 go_enter Tryz.func123,Tryz.ntmps123
 go_wp2_with fail
 refine (refForm _ _).mono ?_
 rintro e u ⟨rfl,rfl⟩
 rw [HF.out]
 go_wp2_with fail
 refine (i1.out _).mono ?_
 rintro e u ⟨rfl,rfl⟩
 cases r1
 ·go_wp2
  go_ret
  exact ⟨rfl,(Below.refl _ w).alloc (Nat.le_refl _) _⟩
 ·go_wp2_with fail
  refine (i2.out _).mono ?_
  rintro e u ⟨rfl,rfl⟩
  cases r2
  ·go_wp2
   go_ret
   exact ⟨rfl,(Below.refl _ w).alloc (Nat.le_refl _) _⟩
  ·go_wp2_with fail
   refine (i3.out _ ((Below.refl _ w).alloc (Nat.le_refl _) _)).mono ?_
   rintro e u ⟨rfl,rfl⟩
   go_wp2
   go_ret
   exact ⟨rfl,(Below.refl _ w).alloc (Nat.le_refl _) _⟩
set_option maxHeartbeats 2000000 in
theorem refOne9xa (op a b n:Int) (ls:List Int) (lo bo eo:Option Addr) (nl nb ne lc bc ec:Nat) (w:World) (hf:form op=9) (hl:Ints w (.slice lo nl lc) ls) (hnl:ls.length=nl) (d0:(a != 0)=true) :
  Calls Tryz.prog 123 #[.agg #[.int .i64 op,.int .i64 a,.int .i64 b,.int .i64 n,.slice lo nl lc,.slice bo nb bc,.slice eo ne ec]] w fun e w'=>e=.returned (.bool false)/\Below w.heap.size w w':=by
 have hlen:=hl.1
 have HL:=hideM hl
 have HF:=hideM hf
 have HNL:=hideM hnl
 rw [hnl] at hlen
 clear hl hf hnl
 go_enter Tryz.func123,Tryz.ntmps123
 go_wp2_with fail
 refine (refForm _ _).mono ?_
 rintro e u ⟨rfl,rfl⟩
 rw [HF.out]
 go_wp2
 go_ret
 exact ⟨rfl,(Below.refl _ w).alloc (Nat.le_refl _) _⟩
set_option maxHeartbeats 2000000 in
theorem refOne9xb (op a b n:Int) (ls:List Int) (lo bo eo:Option Addr) (nl nb ne lc bc ec:Nat) (w:World) (hf:form op=9) (hl:Ints w (.slice lo nl lc) ls) (hnl:ls.length=nl) (d0:(a != 0)=false) (d1:(b != 0)=true) :
  Calls Tryz.prog 123 #[.agg #[.int .i64 op,.int .i64 a,.int .i64 b,.int .i64 n,.slice lo nl lc,.slice bo nb bc,.slice eo ne ec]] w fun e w'=>e=.returned (.bool false)/\Below w.heap.size w w':=by
 have hlen:=hl.1
 have HL:=hideM hl
 have HF:=hideM hf
 have HNL:=hideM hnl
 rw [hnl] at hlen
 clear hl hf hnl
 go_enter Tryz.func123,Tryz.ntmps123
 go_wp2_with fail
 refine (refForm _ _).mono ?_
 rintro e u ⟨rfl,rfl⟩
 rw [HF.out]
 go_wp2
 go_ret
 exact ⟨rfl,(Below.refl _ w).alloc (Nat.le_refl _) _⟩
set_option maxHeartbeats 2000000 in
theorem refOne9xlabels (op a b n:Int) (ls:List Int) (lo bo eo:Option Addr) (nl nb ne lc bc ec:Nat) (w:World) (hf:form op=9) (hl:Ints w (.slice lo nl lc) ls) (hnl:ls.length=nl) (d0:(a != 0)=false) (d1:(b != 0)=false) (d2:0<nl) :
  Calls Tryz.prog 123 #[.agg #[.int .i64 op,.int .i64 a,.int .i64 b,.int .i64 n,.slice lo nl lc,.slice bo nb bc,.slice eo ne ec]] w fun e w'=>e=.returned (.bool false)/\Below w.heap.size w w':=by
 have hlen:=hl.1
 have HL:=hideM hl
 have HF:=hideM hf
 have HNL:=hideM hnl
 rw [hnl] at hlen
 clear hl hf hnl
 have d2a:¬ nl=0:=by omega
 have d2b:(0:Int)<(nl:Int):=by omega
 go_enter Tryz.func123,Tryz.ntmps123
 go_wp2_with fail
 refine (refForm _ _).mono ?_
 rintro e u ⟨rfl,rfl⟩
 rw [HF.out]
 go_wp2
 go_ret
 exact ⟨rfl,(Below.refl _ w).alloc (Nat.le_refl _) _⟩
set_option maxHeartbeats 2000000 in
theorem refOne9xbody (op a b n:Int) (ls:List Int) (lo bo eo:Option Addr) (nl nb ne lc bc ec:Nat) (w:World) (hf:form op=9) (hl:Ints w (.slice lo nl lc) ls) (hnl:ls.length=nl) (d0:(a != 0)=false) (d1:(b != 0)=false) (d2:nl=0) (d3:0<nb) :
  Calls Tryz.prog 123 #[.agg #[.int .i64 op,.int .i64 a,.int .i64 b,.int .i64 n,.slice lo nl lc,.slice bo nb bc,.slice eo ne ec]] w fun e w'=>e=.returned (.bool false)/\Below w.heap.size w w':=by
 have hlen:=hl.1
 have HL:=hideM hl
 have HF:=hideM hf
 have HNL:=hideM hnl
 rw [hnl] at hlen
 clear hl hf hnl
 have d3a:¬ nb=0:=by omega
 have d3b:(0:Int)<(nb:Int):=by omega
 subst d2
 go_enter Tryz.func123,Tryz.ntmps123
 go_wp2_with fail
 refine (refForm _ _).mono ?_
 rintro e u ⟨rfl,rfl⟩
 rw [HF.out]
 go_wp2
 go_ret
 exact ⟨rfl,(Below.refl _ w).alloc (Nat.le_refl _) _⟩
set_option maxHeartbeats 2000000 in
theorem refOne9xels (op a b n:Int) (ls:List Int) (lo bo eo:Option Addr) (nl nb ne lc bc ec:Nat) (w:World) (hf:form op=9) (hl:Ints w (.slice lo nl lc) ls) (hnl:ls.length=nl) (d0:(a != 0)=false) (d1:(b != 0)=false) (d2:nl=0) (d3:nb=0) (d4:0<ne) :
  Calls Tryz.prog 123 #[.agg #[.int .i64 op,.int .i64 a,.int .i64 b,.int .i64 n,.slice lo nl lc,.slice bo nb bc,.slice eo ne ec]] w fun e w'=>e=.returned (.bool false)/\Below w.heap.size w w':=by
 have hlen:=hl.1
 have HL:=hideM hl
 have HF:=hideM hf
 have HNL:=hideM hnl
 rw [hnl] at hlen
 clear hl hf hnl
 have d4a:¬ ne=0:=by omega
 have d4b:(0:Int)<(ne:Int):=by omega
 subst d2
 subst d3
 go_enter Tryz.func123,Tryz.ntmps123
 go_wp2_with fail
 refine (refForm _ _).mono ?_
 rintro e u ⟨rfl,rfl⟩
 rw [HF.out]
 go_wp2
 go_ret
 exact ⟨rfl,(Below.refl _ w).alloc (Nat.le_refl _) _⟩
set_option maxHeartbeats 2000000 in
theorem refOne9e (op a b n:Int) (ls:List Int) (lo bo eo:Option Addr) (nl nb ne lc bc ec:Nat) (w:World) (hf:form op=9) (hl:Ints w (.slice lo nl lc) ls) (hnl:ls.length=nl) (d0:(a != 0)=false) (d1:(b != 0)=false) (d2:nl=0) (d3:nb=0) (d4:ne=0) (s1:¬ op=65) :
  Calls Tryz.prog 123 #[.agg #[.int .i64 op,.int .i64 a,.int .i64 b,.int .i64 n,.slice lo nl lc,.slice bo nb bc,.slice eo ne ec]] w fun e w'=>e=.returned (.bool (idx a && (idx b && ls.all idx)))/\Below w.heap.size w w':=by
 have hlen:=hl.1
 have HL:=hideM hl
 have HF:=hideM hf
 have HNL:=hideM hnl
 rw [hnl] at hlen
 clear hl hf hnl
 subst d2
 subst d3
 subst d4
 have s1b:(op == 65)=false:=by simp [s1]
 have i1:=hideM fun (w:World)=>refIndex a w
 have i2:=hideM fun (w:World)=>refIndex b w
 have i3:=hideM fun (w':World) (h:Below w.heap.size w w')=>refIndices _ ls w' (HL.out.on h)
 generalize idx a=r1 at *
 generalize idx b=r2 at *
 generalize ls.all idx=r3 at *
 go_enter Tryz.func123,Tryz.ntmps123
 go_wp2_with fail
 refine (refForm _ _).mono ?_
 rintro e u ⟨rfl,rfl⟩
 rw [HF.out]
 go_wp2_with fail
 refine (i1.out _).mono ?_
 rintro e u ⟨rfl,rfl⟩
 cases r1
 ·go_wp2
  go_ret
  exact ⟨rfl,(Below.refl _ w).alloc (Nat.le_refl _) _⟩
 ·go_wp2_with fail
  refine (i2.out _).mono ?_
  rintro e u ⟨rfl,rfl⟩
  cases r2
  ·go_wp2
   go_ret
   exact ⟨rfl,(Below.refl _ w).alloc (Nat.le_refl _) _⟩
  ·go_wp2_with fail
   refine (i3.out _ ((Below.refl _ w).alloc (Nat.le_refl _) _)).mono ?_
   rintro e u ⟨rfl,rfl⟩
   go_wp2
   go_ret
   exact ⟨rfl,(Below.refl _ w).alloc (Nat.le_refl _) _⟩
set_option maxHeartbeats 2000000 in
theorem refOne9f (op a b n:Int) (ls:List Int) (lo bo eo:Option Addr) (nl nb ne lc bc ec:Nat) (w:World) (hf:form op=9) (hl:Ints w (.slice lo nl lc) ls) (hnl:ls.length=nl) (d0:(a != 0)=false) (d1:(b != 0)=false) (d2:nl=0) (d3:nb=0) (d4:ne=0) (s1:op=65) (s2:n < -2147483648) :
  Calls Tryz.prog 123 #[.agg #[.int .i64 op,.int .i64 a,.int .i64 b,.int .i64 n,.slice lo nl lc,.slice bo nb bc,.slice eo ne ec]] w fun e w'=>e=.returned (.bool false)/\Below w.heap.size w w':=by
 have hlen:=hl.1
 have HL:=hideM hl
 have HF:=hideM hf
 have HNL:=hideM hnl
 rw [hnl] at hlen
 clear hl hf hnl
 subst d2
 subst d3
 subst d4
 subst s1
 have s2b:decide (n < -2147483648)=true:=by simp [s2]
 go_enter Tryz.func123,Tryz.ntmps123
 go_wp2_with fail
 refine (refForm _ _).mono ?_
 rintro e u ⟨rfl,rfl⟩
 rw [HF.out]
 go_wp2
 go_ret
 exact ⟨rfl,(Below.refl _ w).alloc (Nat.le_refl _) _⟩
set_option maxHeartbeats 2000000 in
theorem refOne9g (op a b n:Int) (ls:List Int) (lo bo eo:Option Addr) (nl nb ne lc bc ec:Nat) (w:World) (hf:form op=9) (hl:Ints w (.slice lo nl lc) ls) (hnl:ls.length=nl) (d0:(a != 0)=false) (d1:(b != 0)=false) (d2:nl=0) (d3:nb=0) (d4:ne=0) (s1:op=65) (s2:-2147483648<=n) (s3:2147483647<n) :
  Calls Tryz.prog 123 #[.agg #[.int .i64 op,.int .i64 a,.int .i64 b,.int .i64 n,.slice lo nl lc,.slice bo nb bc,.slice eo ne ec]] w fun e w'=>e=.returned (.bool false)/\Below w.heap.size w w':=by
 have hlen:=hl.1
 have HL:=hideM hl
 have HF:=hideM hf
 have HNL:=hideM hnl
 rw [hnl] at hlen
 clear hl hf hnl
 subst d2
 subst d3
 subst d4
 subst s1
 have s2b:decide (n < -2147483648)=false:=by simp;omega
 have s3b:decide (2147483647<n)=true:=by simp [s3]
 go_enter Tryz.func123,Tryz.ntmps123
 go_wp2_with fail
 refine (refForm _ _).mono ?_
 rintro e u ⟨rfl,rfl⟩
 rw [HF.out]
 go_wp2
 go_ret
 exact ⟨rfl,(Below.refl _ w).alloc (Nat.le_refl _) _⟩
set_option maxHeartbeats 2000000 in
theorem refOne9h (op a b n:Int) (ls:List Int) (lo bo eo:Option Addr) (nl nb ne lc bc ec:Nat) (w:World) (hf:form op=9) (hl:Ints w (.slice lo nl lc) ls) (hnl:ls.length=nl) (d0:(a != 0)=false) (d1:(b != 0)=false) (d2:nl=0) (d3:nb=0) (d4:ne=0) (s1:op=65) (s2:-2147483648<=n) (s3:n<=2147483647) :
  Calls Tryz.prog 123 #[.agg #[.int .i64 op,.int .i64 a,.int .i64 b,.int .i64 n,.slice lo nl lc,.slice bo nb bc,.slice eo ne ec]] w fun e w'=>e=.returned (.bool (idx a && (idx b && ls.all idx)))/\Below w.heap.size w w':=by
 have hlen:=hl.1
 have HL:=hideM hl
 have HF:=hideM hf
 have HNL:=hideM hnl
 rw [hnl] at hlen
 clear hl hf hnl
 subst d2
 subst d3
 subst d4
 subst s1
 have s2b:decide (n < -2147483648)=false:=by simp;omega
 have s3b:decide (2147483647<n)=false:=by simp;omega
 have i1:=hideM fun (w:World)=>refIndex a w
 have i2:=hideM fun (w:World)=>refIndex b w
 have i3:=hideM fun (w':World) (h:Below w.heap.size w w')=>refIndices _ ls w' (HL.out.on h)
 generalize idx a=r1 at *
 generalize idx b=r2 at *
 generalize ls.all idx=r3 at *
 go_enter Tryz.func123,Tryz.ntmps123
 go_wp2_with fail
 refine (refForm _ _).mono ?_
 rintro e u ⟨rfl,rfl⟩
 rw [HF.out]
 go_wp2_with fail
 refine (i1.out _).mono ?_
 rintro e u ⟨rfl,rfl⟩
 cases r1
 ·go_wp2
  go_ret
  exact ⟨rfl,(Below.refl _ w).alloc (Nat.le_refl _) _⟩
 ·go_wp2_with fail
  refine (i2.out _).mono ?_
  rintro e u ⟨rfl,rfl⟩
  cases r2
  ·go_wp2
   go_ret
   exact ⟨rfl,(Below.refl _ w).alloc (Nat.le_refl _) _⟩
  ·go_wp2_with fail
   refine (i3.out _ ((Below.refl _ w).alloc (Nat.le_refl _) _)).mono ?_
   rintro e u ⟨rfl,rfl⟩
   go_wp2
   go_ret
   exact ⟨rfl,(Below.refl _ w).alloc (Nat.le_refl _) _⟩
set_option maxHeartbeats 2000000 in
theorem refOne10 (op a b n:Int) (ls:List Int) (lo bo eo:Option Addr) (nl nb ne lc bc ec:Nat) (w:World) (hf:form op=10) (hl:Ints w (.slice lo nl lc) ls) (hnl:ls.length=nl) :
  Calls Tryz.prog 123 #[.agg #[.int .i64 op,.int .i64 a,.int .i64 b,.int .i64 n,.slice lo nl lc,.slice bo nb bc,.slice eo ne ec]] w fun e w'=>e=.returned (.bool false)/\Below w.heap.size w w':=by
 have hlen:=hl.1
 have HL:=hideM hl
 have HF:=hideM hf
 have HNL:=hideM hnl
 rw [hnl] at hlen
 clear hl hf hnl
 go_enter Tryz.func123,Tryz.ntmps123
 go_wp2_with fail
 refine (refForm _ _).mono ?_
 rintro e u ⟨rfl,rfl⟩
 rw [HF.out]
 go_wp2
 go_ret
 exact ⟨rfl,(Below.refl _ w).alloc (Nat.le_refl _) _⟩
end Go.Proofs.YtlcpagiljfpbpaaGreatDoor

