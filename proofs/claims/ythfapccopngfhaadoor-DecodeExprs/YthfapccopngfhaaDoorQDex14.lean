/- Texts that the claim needs. -/
import Derived.Test.YthfapccopngfhaaDoorQDex0
namespace Go.Proofs.YthfapccopngfhaaDoor
open Go.RowKit Rep
set_option linter.unusedVariables false
set_option maxHeartbeats 1000000 in
theorem refForm28 (op:Int) (w:World) (h:64<=op/\op<=64):Calls Tryd.prog 19 #[.int .i64 op] w fun e w'=>e=.returned (.int .i64 1)/\w'=w:=by
 have hs:=sig_pos op
 have hp:decide (0<(Nums.sig op).1)=false:=by exact decide_eq_false (fun hp=>by have:=hs.1 hp;omega)
 clear hs
 obtain rfl:op=64:=by omega
 clear h
 go_enter Tryd.func19,Tryd.ntmps19
 go_wp2_with fail
 refine (refSig _ _).mono ?_
 rintro e u ⟨rfl,rfl⟩
 generalize Nums.sig 64=t at *
 go_wp2
 go_ret
 exact ⟨rfl,rfl⟩
set_option maxHeartbeats 1000000 in
theorem refForm29 (op:Int) (w:World) (h:65<=op/\op<=65):Calls Tryd.prog 19 #[.int .i64 op] w fun e w'=>e=.returned (.int .i64 9)/\w'=w:=by
 have hs:=sig_pos op
 have hp:decide (0<(Nums.sig op).1)=false:=by exact decide_eq_false (fun hp=>by have:=hs.1 hp;omega)
 clear hs
 obtain rfl:op=65:=by omega
 clear h
 go_enter Tryd.func19,Tryd.ntmps19
 go_wp2_with fail
 refine (refSig _ _).mono ?_
 rintro e u ⟨rfl,rfl⟩
 generalize Nums.sig 65=t at *
 go_wp2_with fail
 refine (refIn _ _ _ _).mono ?_
 rintro e u ⟨rfl,rfl⟩
 rw [show decide ((32:Int)<=65/\(65:Int)<=36)=false by decide]
 go_wp2_with fail
 refine (refIn _ _ _ _).mono ?_
 rintro e u ⟨rfl,rfl⟩
 rw [show decide ((44:Int)<=65/\(65:Int)<=55)=false by decide]
 go_wp2_with fail
 refine (refIn _ _ _ _).mono ?_
 rintro e u ⟨rfl,rfl⟩
 rw [show decide ((58:Int)<=65/\(65:Int)<=62)=false by decide]
 go_wp2
 go_ret
 exact ⟨rfl,rfl⟩
set_option maxHeartbeats 1000000 in
theorem refForm30 (op:Int) (w:World) (h:66<=op/\op<=66):Calls Tryd.prog 19 #[.int .i64 op] w fun e w'=>e=.returned (.int .i64 9)/\w'=w:=by
 have hs:=sig_pos op
 have hp:decide (0<(Nums.sig op).1)=false:=by exact decide_eq_false (fun hp=>by have:=hs.1 hp;omega)
 clear hs
 obtain rfl:op=66:=by omega
 clear h
 go_enter Tryd.func19,Tryd.ntmps19
 go_wp2_with fail
 refine (refSig _ _).mono ?_
 rintro e u ⟨rfl,rfl⟩
 generalize Nums.sig 66=t at *
 go_wp2_with fail
 refine (refIn _ _ _ _).mono ?_
 rintro e u ⟨rfl,rfl⟩
 rw [show decide ((32:Int)<=66/\(66:Int)<=36)=false by decide]
 go_wp2_with fail
 refine (refIn _ _ _ _).mono ?_
 rintro e u ⟨rfl,rfl⟩
 rw [show decide ((44:Int)<=66/\(66:Int)<=55)=false by decide]
 go_wp2_with fail
 refine (refIn _ _ _ _).mono ?_
 rintro e u ⟨rfl,rfl⟩
 rw [show decide ((58:Int)<=66/\(66:Int)<=62)=false by decide]
 go_wp2
 go_ret
 exact ⟨rfl,rfl⟩
set_option maxHeartbeats 1000000 in
theorem refForm31 (op:Int) (w:World) (h:67<=op/\op<=67):Calls Tryd.prog 19 #[.int .i64 op] w fun e w'=>e=.returned (.int .i64 10)/\w'=w:=by
 have hs:=sig_pos op
 have hp:decide (0<(Nums.sig op).1)=false:=by exact decide_eq_false (fun hp=>by have:=hs.1 hp;omega)
 clear hs
 obtain rfl:op=67:=by omega
 clear h
 go_enter Tryd.func19,Tryd.ntmps19
 go_wp2_with fail
 refine (refSig _ _).mono ?_
 rintro e u ⟨rfl,rfl⟩
 generalize Nums.sig 67=t at *
 go_wp2_with fail
 refine (refIn _ _ _ _).mono ?_
 rintro e u ⟨rfl,rfl⟩
 rw [show decide ((32:Int)<=67/\(67:Int)<=36)=false by decide]
 go_wp2_with fail
 refine (refIn _ _ _ _).mono ?_
 rintro e u ⟨rfl,rfl⟩
 rw [show decide ((44:Int)<=67/\(67:Int)<=55)=false by decide]
 go_wp2_with fail
 refine (refIn _ _ _ _).mono ?_
 rintro e u ⟨rfl,rfl⟩
 rw [show decide ((58:Int)<=67/\(67:Int)<=62)=false by decide]
 go_wp2
 go_ret
 exact ⟨rfl,rfl⟩
set_option maxHeartbeats 1000000 in
theorem refForm32 (op:Int) (w:World) (h:68<=op/\op<=68):Calls Tryd.prog 19 #[.int .i64 op] w fun e w'=>e=.returned (.int .i64 10)/\w'=w:=by
 have hs:=sig_pos op
 have hp:decide (0<(Nums.sig op).1)=false:=by exact decide_eq_false (fun hp=>by have:=hs.1 hp;omega)
 clear hs
 obtain rfl:op=68:=by omega
 clear h
 go_enter Tryd.func19,Tryd.ntmps19
 go_wp2_with fail
 refine (refSig _ _).mono ?_
 rintro e u ⟨rfl,rfl⟩
 generalize Nums.sig 68=t at *
 go_wp2_with fail
 refine (refIn _ _ _ _).mono ?_
 rintro e u ⟨rfl,rfl⟩
 rw [show decide ((32:Int)<=68/\(68:Int)<=36)=false by decide]
 go_wp2_with fail
 refine (refIn _ _ _ _).mono ?_
 rintro e u ⟨rfl,rfl⟩
 rw [show decide ((44:Int)<=68/\(68:Int)<=55)=false by decide]
 go_wp2_with fail
 refine (refIn _ _ _ _).mono ?_
 rintro e u ⟨rfl,rfl⟩
 rw [show decide ((58:Int)<=68/\(68:Int)<=62)=false by decide]
 go_wp2
 go_ret
 exact ⟨rfl,rfl⟩
set_option maxHeartbeats 1000000 in
theorem refForm33 (op:Int) (w:World) (h:69<=op/\op<=90):Calls Tryd.prog 19 #[.int .i64 op] w fun e w'=>e=.returned (.int .i64 1)/\w'=w:=by
 have hs:=sig_pos op
 have hp:decide (0<(Nums.sig op).1)=true:=by exact decide_eq_true (hs.2 (by omega))
 clear hs
 have q0:(op == 0)=false:=by rw [beq_eq_false_iff_ne];omega
 have q1:(op == 1)=false:=by rw [beq_eq_false_iff_ne];omega
 have q15:(op == 15)=false:=by rw [beq_eq_false_iff_ne];omega
 have q26:(op == 26)=false:=by rw [beq_eq_false_iff_ne];omega
 have q27:(op == 27)=false:=by rw [beq_eq_false_iff_ne];omega
 have q63:(op == 63)=false:=by rw [beq_eq_false_iff_ne];omega
 have q64:(op == 64)=false:=by rw [beq_eq_false_iff_ne];omega
 have q2:(op == 2)=false:=by rw [beq_eq_false_iff_ne];omega
 have q3:(op == 3)=false:=by rw [beq_eq_false_iff_ne];omega
 have q4:(op == 4)=false:=by rw [beq_eq_false_iff_ne];omega
 have q12:(op == 12)=false:=by rw [beq_eq_false_iff_ne];omega
 have q13:(op == 13)=false:=by rw [beq_eq_false_iff_ne];omega
 have q14:(op == 14)=false:=by rw [beq_eq_false_iff_ne];omega
 have q16:(op == 16)=false:=by rw [beq_eq_false_iff_ne];omega
 have q17:(op == 17)=false:=by rw [beq_eq_false_iff_ne];omega
 have q40:(op == 40)=false:=by rw [beq_eq_false_iff_ne];omega
 have q41:(op == 41)=false:=by rw [beq_eq_false_iff_ne];omega
 have q65:(op == 65)=false:=by rw [beq_eq_false_iff_ne];omega
 have q66:(op == 66)=false:=by rw [beq_eq_false_iff_ne];omega
 have q42:(op == 42)=false:=by rw [beq_eq_false_iff_ne];omega
 have q43:(op == 43)=false:=by rw [beq_eq_false_iff_ne];omega
 have q56:(op == 56)=false:=by rw [beq_eq_false_iff_ne];omega
 have q57:(op == 57)=false:=by rw [beq_eq_false_iff_ne];omega
 have q67:(op == 67)=false:=by rw [beq_eq_false_iff_ne];omega
 have q68:(op == 68)=false:=by rw [beq_eq_false_iff_ne];omega
 have r32:decide (32<=op/\op<=36)=false:=decide_eq_false (by omega)
 have R32:=hideM r32
 clear r32
 have r44:decide (44<=op/\op<=55)=false:=decide_eq_false (by omega)
 have R44:=hideM r44
 clear r44
 have r58:decide (58<=op/\op<=62)=false:=decide_eq_false (by omega)
 have R58:=hideM r58
 clear r58
 have r91:decide (91<=op/\op<=102)=false:=decide_eq_false (by omega)
 have R91:=hideM r91
 clear r91
 have r139:decide (139<=op/\op<=166)=false:=decide_eq_false (by omega)
 have R139:=hideM r139
 clear r139
 have r168:decide (168<=op/\op<=171)=false:=decide_eq_false (by omega)
 have R168:=hideM r168
 clear r168
 have r174:decide (174<=op/\op<=191)=false:=decide_eq_false (by omega)
 have R174:=hideM r174
 clear r174
 clear h
 go_enter Tryd.func19,Tryd.ntmps19
 go_wp2_with fail
 refine (refSig _ _).mono ?_
 rintro e u ⟨rfl,rfl⟩
 generalize Nums.sig op=t at *
 go_wp2
 go_ret
 exact ⟨rfl,rfl⟩
set_option maxHeartbeats 1000000 in
theorem refForm34 (op:Int) (w:World) (h:91<=op/\op<=102):Calls Tryd.prog 19 #[.int .i64 op] w fun e w'=>e=.returned (.int .i64 10)/\w'=w:=by
 have hs:=sig_pos op
 have hp:decide (0<(Nums.sig op).1)=false:=by exact decide_eq_false (fun hp=>by have:=hs.1 hp;omega)
 clear hs
 have q0:(op == 0)=false:=by rw [beq_eq_false_iff_ne];omega
 have q1:(op == 1)=false:=by rw [beq_eq_false_iff_ne];omega
 have q15:(op == 15)=false:=by rw [beq_eq_false_iff_ne];omega
 have q26:(op == 26)=false:=by rw [beq_eq_false_iff_ne];omega
 have q27:(op == 27)=false:=by rw [beq_eq_false_iff_ne];omega
 have q63:(op == 63)=false:=by rw [beq_eq_false_iff_ne];omega
 have q64:(op == 64)=false:=by rw [beq_eq_false_iff_ne];omega
 have q2:(op == 2)=false:=by rw [beq_eq_false_iff_ne];omega
 have q3:(op == 3)=false:=by rw [beq_eq_false_iff_ne];omega
 have q4:(op == 4)=false:=by rw [beq_eq_false_iff_ne];omega
 have q12:(op == 12)=false:=by rw [beq_eq_false_iff_ne];omega
 have q13:(op == 13)=false:=by rw [beq_eq_false_iff_ne];omega
 have q14:(op == 14)=false:=by rw [beq_eq_false_iff_ne];omega
 have q16:(op == 16)=false:=by rw [beq_eq_false_iff_ne];omega
 have q17:(op == 17)=false:=by rw [beq_eq_false_iff_ne];omega
 have q40:(op == 40)=false:=by rw [beq_eq_false_iff_ne];omega
 have q41:(op == 41)=false:=by rw [beq_eq_false_iff_ne];omega
 have q65:(op == 65)=false:=by rw [beq_eq_false_iff_ne];omega
 have q66:(op == 66)=false:=by rw [beq_eq_false_iff_ne];omega
 have q42:(op == 42)=false:=by rw [beq_eq_false_iff_ne];omega
 have q43:(op == 43)=false:=by rw [beq_eq_false_iff_ne];omega
 have q56:(op == 56)=false:=by rw [beq_eq_false_iff_ne];omega
 have q57:(op == 57)=false:=by rw [beq_eq_false_iff_ne];omega
 have q67:(op == 67)=false:=by rw [beq_eq_false_iff_ne];omega
 have q68:(op == 68)=false:=by rw [beq_eq_false_iff_ne];omega
 have r32:decide (32<=op/\op<=36)=false:=decide_eq_false (by omega)
 have R32:=hideM r32
 clear r32
 have r44:decide (44<=op/\op<=55)=false:=decide_eq_false (by omega)
 have R44:=hideM r44
 clear r44
 have r58:decide (58<=op/\op<=62)=false:=decide_eq_false (by omega)
 have R58:=hideM r58
 clear r58
 have r91:decide (91<=op/\op<=102)=true:=decide_eq_true (by omega)
 have R91:=hideM r91
 clear r91
 have r139:decide (139<=op/\op<=166)=false:=decide_eq_false (by omega)
 have R139:=hideM r139
 clear r139
 have r168:decide (168<=op/\op<=171)=false:=decide_eq_false (by omega)
 have R168:=hideM r168
 clear r168
 have r174:decide (174<=op/\op<=191)=false:=decide_eq_false (by omega)
 have R174:=hideM r174
 clear r174
 clear h
 go_enter Tryd.func19,Tryd.ntmps19
 go_wp2_with fail
 refine (refSig _ _).mono ?_
 rintro e u ⟨rfl,rfl⟩
 generalize Nums.sig op=t at *
 go_wp2_with fail
 refine (refIn _ _ _ _).mono ?_
 rintro e u ⟨rfl,rfl⟩
 rw [R32.out]
 go_wp2_with fail
 refine (refIn _ _ _ _).mono ?_
 rintro e u ⟨rfl,rfl⟩
 rw [R44.out]
 go_wp2_with fail
 refine (refIn _ _ _ _).mono ?_
 rintro e u ⟨rfl,rfl⟩
 rw [R58.out]
 go_wp2_with fail
 refine (refIn _ _ _ _).mono ?_
 rintro e u ⟨rfl,rfl⟩
 rw [R91.out]
 go_wp2
 go_ret
 exact ⟨rfl,rfl⟩
set_option maxHeartbeats 1000000 in
theorem refForm35 (op:Int) (w:World) (h:103<=op/\op<=138):Calls Tryd.prog 19 #[.int .i64 op] w fun e w'=>e=.returned (.int .i64 1)/\w'=w:=by
 have hs:=sig_pos op
 have hp:decide (0<(Nums.sig op).1)=true:=by exact decide_eq_true (hs.2 (by omega))
 clear hs
 have q0:(op == 0)=false:=by rw [beq_eq_false_iff_ne];omega
 have q1:(op == 1)=false:=by rw [beq_eq_false_iff_ne];omega
 have q15:(op == 15)=false:=by rw [beq_eq_false_iff_ne];omega
 have q26:(op == 26)=false:=by rw [beq_eq_false_iff_ne];omega
 have q27:(op == 27)=false:=by rw [beq_eq_false_iff_ne];omega
 have q63:(op == 63)=false:=by rw [beq_eq_false_iff_ne];omega
 have q64:(op == 64)=false:=by rw [beq_eq_false_iff_ne];omega
 have q2:(op == 2)=false:=by rw [beq_eq_false_iff_ne];omega
 have q3:(op == 3)=false:=by rw [beq_eq_false_iff_ne];omega
 have q4:(op == 4)=false:=by rw [beq_eq_false_iff_ne];omega
 have q12:(op == 12)=false:=by rw [beq_eq_false_iff_ne];omega
 have q13:(op == 13)=false:=by rw [beq_eq_false_iff_ne];omega
 have q14:(op == 14)=false:=by rw [beq_eq_false_iff_ne];omega
 have q16:(op == 16)=false:=by rw [beq_eq_false_iff_ne];omega
 have q17:(op == 17)=false:=by rw [beq_eq_false_iff_ne];omega
 have q40:(op == 40)=false:=by rw [beq_eq_false_iff_ne];omega
 have q41:(op == 41)=false:=by rw [beq_eq_false_iff_ne];omega
 have q65:(op == 65)=false:=by rw [beq_eq_false_iff_ne];omega
 have q66:(op == 66)=false:=by rw [beq_eq_false_iff_ne];omega
 have q42:(op == 42)=false:=by rw [beq_eq_false_iff_ne];omega
 have q43:(op == 43)=false:=by rw [beq_eq_false_iff_ne];omega
 have q56:(op == 56)=false:=by rw [beq_eq_false_iff_ne];omega
 have q57:(op == 57)=false:=by rw [beq_eq_false_iff_ne];omega
 have q67:(op == 67)=false:=by rw [beq_eq_false_iff_ne];omega
 have q68:(op == 68)=false:=by rw [beq_eq_false_iff_ne];omega
 have r32:decide (32<=op/\op<=36)=false:=decide_eq_false (by omega)
 have R32:=hideM r32
 clear r32
 have r44:decide (44<=op/\op<=55)=false:=decide_eq_false (by omega)
 have R44:=hideM r44
 clear r44
 have r58:decide (58<=op/\op<=62)=false:=decide_eq_false (by omega)
 have R58:=hideM r58
 clear r58
 have r91:decide (91<=op/\op<=102)=false:=decide_eq_false (by omega)
 have R91:=hideM r91
 clear r91
 have r139:decide (139<=op/\op<=166)=false:=decide_eq_false (by omega)
 have R139:=hideM r139
 clear r139
 have r168:decide (168<=op/\op<=171)=false:=decide_eq_false (by omega)
 have R168:=hideM r168
 clear r168
 have r174:decide (174<=op/\op<=191)=false:=decide_eq_false (by omega)
 have R174:=hideM r174
 clear r174
 clear h
 go_enter Tryd.func19,Tryd.ntmps19
 go_wp2_with fail
 refine (refSig _ _).mono ?_
 rintro e u ⟨rfl,rfl⟩
 generalize Nums.sig op=t at *
 go_wp2
 go_ret
 exact ⟨rfl,rfl⟩
set_option maxHeartbeats 1000000 in
theorem refForm36 (op:Int) (w:World) (h:139<=op/\op<=166):Calls Tryd.prog 19 #[.int .i64 op] w fun e w'=>e=.returned (.int .i64 10)/\w'=w:=by
 have hs:=sig_pos op
 have hp:decide (0<(Nums.sig op).1)=false:=by exact decide_eq_false (fun hp=>by have:=hs.1 hp;omega)
 clear hs
 have q0:(op == 0)=false:=by rw [beq_eq_false_iff_ne];omega
 have q1:(op == 1)=false:=by rw [beq_eq_false_iff_ne];omega
 have q15:(op == 15)=false:=by rw [beq_eq_false_iff_ne];omega
 have q26:(op == 26)=false:=by rw [beq_eq_false_iff_ne];omega
 have q27:(op == 27)=false:=by rw [beq_eq_false_iff_ne];omega
 have q63:(op == 63)=false:=by rw [beq_eq_false_iff_ne];omega
 have q64:(op == 64)=false:=by rw [beq_eq_false_iff_ne];omega
 have q2:(op == 2)=false:=by rw [beq_eq_false_iff_ne];omega
 have q3:(op == 3)=false:=by rw [beq_eq_false_iff_ne];omega
 have q4:(op == 4)=false:=by rw [beq_eq_false_iff_ne];omega
 have q12:(op == 12)=false:=by rw [beq_eq_false_iff_ne];omega
 have q13:(op == 13)=false:=by rw [beq_eq_false_iff_ne];omega
 have q14:(op == 14)=false:=by rw [beq_eq_false_iff_ne];omega
 have q16:(op == 16)=false:=by rw [beq_eq_false_iff_ne];omega
 have q17:(op == 17)=false:=by rw [beq_eq_false_iff_ne];omega
 have q40:(op == 40)=false:=by rw [beq_eq_false_iff_ne];omega
 have q41:(op == 41)=false:=by rw [beq_eq_false_iff_ne];omega
 have q65:(op == 65)=false:=by rw [beq_eq_false_iff_ne];omega
 have q66:(op == 66)=false:=by rw [beq_eq_false_iff_ne];omega
 have q42:(op == 42)=false:=by rw [beq_eq_false_iff_ne];omega
 have q43:(op == 43)=false:=by rw [beq_eq_false_iff_ne];omega
 have q56:(op == 56)=false:=by rw [beq_eq_false_iff_ne];omega
 have q57:(op == 57)=false:=by rw [beq_eq_false_iff_ne];omega
 have q67:(op == 67)=false:=by rw [beq_eq_false_iff_ne];omega
 have q68:(op == 68)=false:=by rw [beq_eq_false_iff_ne];omega
 have r32:decide (32<=op/\op<=36)=false:=decide_eq_false (by omega)
 have R32:=hideM r32
 clear r32
 have r44:decide (44<=op/\op<=55)=false:=decide_eq_false (by omega)
 have R44:=hideM r44
 clear r44
 have r58:decide (58<=op/\op<=62)=false:=decide_eq_false (by omega)
 have R58:=hideM r58
 clear r58
 have r91:decide (91<=op/\op<=102)=false:=decide_eq_false (by omega)
 have R91:=hideM r91
 clear r91
 have r139:decide (139<=op/\op<=166)=true:=decide_eq_true (by omega)
 have R139:=hideM r139
 clear r139
 have r168:decide (168<=op/\op<=171)=false:=decide_eq_false (by omega)
 have R168:=hideM r168
 clear r168
 have r174:decide (174<=op/\op<=191)=false:=decide_eq_false (by omega)
 have R174:=hideM r174
 clear r174
 clear h
 go_enter Tryd.func19,Tryd.ntmps19
 go_wp2_with fail
 refine (refSig _ _).mono ?_
 rintro e u ⟨rfl,rfl⟩
 generalize Nums.sig op=t at *
 go_wp2_with fail
 refine (refIn _ _ _ _).mono ?_
 rintro e u ⟨rfl,rfl⟩
 rw [R32.out]
 go_wp2_with fail
 refine (refIn _ _ _ _).mono ?_
 rintro e u ⟨rfl,rfl⟩
 rw [R44.out]
 go_wp2_with fail
 refine (refIn _ _ _ _).mono ?_
 rintro e u ⟨rfl,rfl⟩
 rw [R58.out]
 go_wp2_with fail
 refine (refIn _ _ _ _).mono ?_
 rintro e u ⟨rfl,rfl⟩
 rw [R91.out]
 go_wp2_with fail
 refine (refIn _ _ _ _).mono ?_
 rintro e u ⟨rfl,rfl⟩
 rw [R139.out]
 go_wp2
 go_ret
 exact ⟨rfl,rfl⟩
set_option maxHeartbeats 1000000 in
theorem refForm37 (op:Int) (w:World) (h:167<=op/\op<=167):Calls Tryd.prog 19 #[.int .i64 op] w fun e w'=>e=.returned (.int .i64 1)/\w'=w:=by
 have hs:=sig_pos op
 have hp:decide (0<(Nums.sig op).1)=true:=by exact decide_eq_true (hs.2 (by omega))
 clear hs
 obtain rfl:op=167:=by omega
 clear h
 go_enter Tryd.func19,Tryd.ntmps19
 go_wp2_with fail
 refine (refSig _ _).mono ?_
 rintro e u ⟨rfl,rfl⟩
 generalize Nums.sig 167=t at *
 go_wp2
 go_ret
 exact ⟨rfl,rfl⟩
set_option maxHeartbeats 1000000 in
theorem refForm38 (op:Int) (w:World) (h:168<=op/\op<=171):Calls Tryd.prog 19 #[.int .i64 op] w fun e w'=>e=.returned (.int .i64 10)/\w'=w:=by
 have hs:=sig_pos op
 have hp:decide (0<(Nums.sig op).1)=false:=by exact decide_eq_false (fun hp=>by have:=hs.1 hp;omega)
 clear hs
 have q0:(op == 0)=false:=by rw [beq_eq_false_iff_ne];omega
 have q1:(op == 1)=false:=by rw [beq_eq_false_iff_ne];omega
 have q15:(op == 15)=false:=by rw [beq_eq_false_iff_ne];omega
 have q26:(op == 26)=false:=by rw [beq_eq_false_iff_ne];omega
 have q27:(op == 27)=false:=by rw [beq_eq_false_iff_ne];omega
 have q63:(op == 63)=false:=by rw [beq_eq_false_iff_ne];omega
 have q64:(op == 64)=false:=by rw [beq_eq_false_iff_ne];omega
 have q2:(op == 2)=false:=by rw [beq_eq_false_iff_ne];omega
 have q3:(op == 3)=false:=by rw [beq_eq_false_iff_ne];omega
 have q4:(op == 4)=false:=by rw [beq_eq_false_iff_ne];omega
 have q12:(op == 12)=false:=by rw [beq_eq_false_iff_ne];omega
 have q13:(op == 13)=false:=by rw [beq_eq_false_iff_ne];omega
 have q14:(op == 14)=false:=by rw [beq_eq_false_iff_ne];omega
 have q16:(op == 16)=false:=by rw [beq_eq_false_iff_ne];omega
 have q17:(op == 17)=false:=by rw [beq_eq_false_iff_ne];omega
 have q40:(op == 40)=false:=by rw [beq_eq_false_iff_ne];omega
 have q41:(op == 41)=false:=by rw [beq_eq_false_iff_ne];omega
 have q65:(op == 65)=false:=by rw [beq_eq_false_iff_ne];omega
 have q66:(op == 66)=false:=by rw [beq_eq_false_iff_ne];omega
 have q42:(op == 42)=false:=by rw [beq_eq_false_iff_ne];omega
 have q43:(op == 43)=false:=by rw [beq_eq_false_iff_ne];omega
 have q56:(op == 56)=false:=by rw [beq_eq_false_iff_ne];omega
 have q57:(op == 57)=false:=by rw [beq_eq_false_iff_ne];omega
 have q67:(op == 67)=false:=by rw [beq_eq_false_iff_ne];omega
 have q68:(op == 68)=false:=by rw [beq_eq_false_iff_ne];omega
 have r32:decide (32<=op/\op<=36)=false:=decide_eq_false (by omega)
 have R32:=hideM r32
 clear r32
 have r44:decide (44<=op/\op<=55)=false:=decide_eq_false (by omega)
 have R44:=hideM r44
 clear r44
 have r58:decide (58<=op/\op<=62)=false:=decide_eq_false (by omega)
 have R58:=hideM r58
 clear r58
 have r91:decide (91<=op/\op<=102)=false:=decide_eq_false (by omega)
 have R91:=hideM r91
 clear r91
 have r139:decide (139<=op/\op<=166)=false:=decide_eq_false (by omega)
 have R139:=hideM r139
 clear r139
 have r168:decide (168<=op/\op<=171)=true:=decide_eq_true (by omega)
 have R168:=hideM r168
 clear r168
 have r174:decide (174<=op/\op<=191)=false:=decide_eq_false (by omega)
 have R174:=hideM r174
 clear r174
 clear h
 go_enter Tryd.func19,Tryd.ntmps19
 go_wp2_with fail
 refine (refSig _ _).mono ?_
 rintro e u ⟨rfl,rfl⟩
 generalize Nums.sig op=t at *
 go_wp2_with fail
 refine (refIn _ _ _ _).mono ?_
 rintro e u ⟨rfl,rfl⟩
 rw [R32.out]
 go_wp2_with fail
 refine (refIn _ _ _ _).mono ?_
 rintro e u ⟨rfl,rfl⟩
 rw [R44.out]
 go_wp2_with fail
 refine (refIn _ _ _ _).mono ?_
 rintro e u ⟨rfl,rfl⟩
 rw [R58.out]
 go_wp2_with fail
 refine (refIn _ _ _ _).mono ?_
 rintro e u ⟨rfl,rfl⟩
 rw [R91.out]
 go_wp2_with fail
 refine (refIn _ _ _ _).mono ?_
 rintro e u ⟨rfl,rfl⟩
 rw [R139.out]
 go_wp2_with fail
 refine (refIn _ _ _ _).mono ?_
 rintro e u ⟨rfl,rfl⟩
 rw [R168.out]
 go_wp2
 go_ret
 exact ⟨rfl,rfl⟩
set_option maxHeartbeats 1000000 in
theorem refForm39 (op:Int) (w:World) (h:172<=op/\op<=173):Calls Tryd.prog 19 #[.int .i64 op] w fun e w'=>e=.returned (.int .i64 1)/\w'=w:=by
 have hs:=sig_pos op
 have hp:decide (0<(Nums.sig op).1)=true:=by exact decide_eq_true (hs.2 (by omega))
 clear hs
 have q0:(op == 0)=false:=by rw [beq_eq_false_iff_ne];omega
 have q1:(op == 1)=false:=by rw [beq_eq_false_iff_ne];omega
 have q15:(op == 15)=false:=by rw [beq_eq_false_iff_ne];omega
 have q26:(op == 26)=false:=by rw [beq_eq_false_iff_ne];omega
 have q27:(op == 27)=false:=by rw [beq_eq_false_iff_ne];omega
 have q63:(op == 63)=false:=by rw [beq_eq_false_iff_ne];omega
 have q64:(op == 64)=false:=by rw [beq_eq_false_iff_ne];omega
 have q2:(op == 2)=false:=by rw [beq_eq_false_iff_ne];omega
 have q3:(op == 3)=false:=by rw [beq_eq_false_iff_ne];omega
 have q4:(op == 4)=false:=by rw [beq_eq_false_iff_ne];omega
 have q12:(op == 12)=false:=by rw [beq_eq_false_iff_ne];omega
 have q13:(op == 13)=false:=by rw [beq_eq_false_iff_ne];omega
 have q14:(op == 14)=false:=by rw [beq_eq_false_iff_ne];omega
 have q16:(op == 16)=false:=by rw [beq_eq_false_iff_ne];omega
 have q17:(op == 17)=false:=by rw [beq_eq_false_iff_ne];omega
 have q40:(op == 40)=false:=by rw [beq_eq_false_iff_ne];omega
 have q41:(op == 41)=false:=by rw [beq_eq_false_iff_ne];omega
 have q65:(op == 65)=false:=by rw [beq_eq_false_iff_ne];omega
 have q66:(op == 66)=false:=by rw [beq_eq_false_iff_ne];omega
 have q42:(op == 42)=false:=by rw [beq_eq_false_iff_ne];omega
 have q43:(op == 43)=false:=by rw [beq_eq_false_iff_ne];omega
 have q56:(op == 56)=false:=by rw [beq_eq_false_iff_ne];omega
 have q57:(op == 57)=false:=by rw [beq_eq_false_iff_ne];omega
 have q67:(op == 67)=false:=by rw [beq_eq_false_iff_ne];omega
 have q68:(op == 68)=false:=by rw [beq_eq_false_iff_ne];omega
 have r32:decide (32<=op/\op<=36)=false:=decide_eq_false (by omega)
 have R32:=hideM r32
 clear r32
 have r44:decide (44<=op/\op<=55)=false:=decide_eq_false (by omega)
 have R44:=hideM r44
 clear r44
 have r58:decide (58<=op/\op<=62)=false:=decide_eq_false (by omega)
 have R58:=hideM r58
 clear r58
 have r91:decide (91<=op/\op<=102)=false:=decide_eq_false (by omega)
 have R91:=hideM r91
 clear r91
 have r139:decide (139<=op/\op<=166)=false:=decide_eq_false (by omega)
 have R139:=hideM r139
 clear r139
 have r168:decide (168<=op/\op<=171)=false:=decide_eq_false (by omega)
 have R168:=hideM r168
 clear r168
 have r174:decide (174<=op/\op<=191)=false:=decide_eq_false (by omega)
 have R174:=hideM r174
 clear r174
 clear h
 go_enter Tryd.func19,Tryd.ntmps19
 go_wp2_with fail
 refine (refSig _ _).mono ?_
 rintro e u ⟨rfl,rfl⟩
 generalize Nums.sig op=t at *
 go_wp2
 go_ret
 exact ⟨rfl,rfl⟩
set_option maxHeartbeats 1000000 in
theorem refForm40 (op:Int) (w:World) (h:174<=op/\op<=191):Calls Tryd.prog 19 #[.int .i64 op] w fun e w'=>e=.returned (.int .i64 10)/\w'=w:=by
 have hs:=sig_pos op
 have hp:decide (0<(Nums.sig op).1)=false:=by exact decide_eq_false (fun hp=>by have:=hs.1 hp;omega)
 clear hs
 have q0:(op == 0)=false:=by rw [beq_eq_false_iff_ne];omega
 have q1:(op == 1)=false:=by rw [beq_eq_false_iff_ne];omega
 have q15:(op == 15)=false:=by rw [beq_eq_false_iff_ne];omega
 have q26:(op == 26)=false:=by rw [beq_eq_false_iff_ne];omega
 have q27:(op == 27)=false:=by rw [beq_eq_false_iff_ne];omega
 have q63:(op == 63)=false:=by rw [beq_eq_false_iff_ne];omega
 have q64:(op == 64)=false:=by rw [beq_eq_false_iff_ne];omega
 have q2:(op == 2)=false:=by rw [beq_eq_false_iff_ne];omega
 have q3:(op == 3)=false:=by rw [beq_eq_false_iff_ne];omega
 have q4:(op == 4)=false:=by rw [beq_eq_false_iff_ne];omega
 have q12:(op == 12)=false:=by rw [beq_eq_false_iff_ne];omega
 have q13:(op == 13)=false:=by rw [beq_eq_false_iff_ne];omega
 have q14:(op == 14)=false:=by rw [beq_eq_false_iff_ne];omega
 have q16:(op == 16)=false:=by rw [beq_eq_false_iff_ne];omega
 have q17:(op == 17)=false:=by rw [beq_eq_false_iff_ne];omega
 have q40:(op == 40)=false:=by rw [beq_eq_false_iff_ne];omega
 have q41:(op == 41)=false:=by rw [beq_eq_false_iff_ne];omega
 have q65:(op == 65)=false:=by rw [beq_eq_false_iff_ne];omega
 have q66:(op == 66)=false:=by rw [beq_eq_false_iff_ne];omega
 have q42:(op == 42)=false:=by rw [beq_eq_false_iff_ne];omega
 have q43:(op == 43)=false:=by rw [beq_eq_false_iff_ne];omega
 have q56:(op == 56)=false:=by rw [beq_eq_false_iff_ne];omega
 have q57:(op == 57)=false:=by rw [beq_eq_false_iff_ne];omega
 have q67:(op == 67)=false:=by rw [beq_eq_false_iff_ne];omega
 have q68:(op == 68)=false:=by rw [beq_eq_false_iff_ne];omega
 have r32:decide (32<=op/\op<=36)=false:=decide_eq_false (by omega)
 have R32:=hideM r32
 clear r32
 have r44:decide (44<=op/\op<=55)=false:=decide_eq_false (by omega)
 have R44:=hideM r44
 clear r44
 have r58:decide (58<=op/\op<=62)=false:=decide_eq_false (by omega)
 have R58:=hideM r58
 clear r58
 have r91:decide (91<=op/\op<=102)=false:=decide_eq_false (by omega)
 have R91:=hideM r91
 clear r91
 have r139:decide (139<=op/\op<=166)=false:=decide_eq_false (by omega)
 have R139:=hideM r139
 clear r139
 have r168:decide (168<=op/\op<=171)=false:=decide_eq_false (by omega)
 have R168:=hideM r168
 clear r168
 have r174:decide (174<=op/\op<=191)=true:=decide_eq_true (by omega)
 have R174:=hideM r174
 clear r174
 clear h
 go_enter Tryd.func19,Tryd.ntmps19
 go_wp2_with fail
 refine (refSig _ _).mono ?_
 rintro e u ⟨rfl,rfl⟩
 generalize Nums.sig op=t at *
 go_wp2_with fail
 refine (refIn _ _ _ _).mono ?_
 rintro e u ⟨rfl,rfl⟩
 rw [R32.out]
 go_wp2_with fail
 refine (refIn _ _ _ _).mono ?_
 rintro e u ⟨rfl,rfl⟩
 rw [R44.out]
 go_wp2_with fail
 refine (refIn _ _ _ _).mono ?_
 rintro e u ⟨rfl,rfl⟩
 rw [R58.out]
 go_wp2_with fail
 refine (refIn _ _ _ _).mono ?_
 rintro e u ⟨rfl,rfl⟩
 rw [R91.out]
 go_wp2_with fail
 refine (refIn _ _ _ _).mono ?_
 rintro e u ⟨rfl,rfl⟩
 rw [R139.out]
 go_wp2_with fail
 refine (refIn _ _ _ _).mono ?_
 rintro e u ⟨rfl,rfl⟩
 rw [R168.out]
 go_wp2_with fail
 refine (refIn _ _ _ _).mono ?_
 rintro e u ⟨rfl,rfl⟩
 rw [R174.out]
 go_wp2
 go_ret
 exact ⟨rfl,rfl⟩
set_option maxHeartbeats 1000000 in
theorem refForm41 (op:Int) (w:World) (h:192<=op):Calls Tryd.prog 19 #[.int .i64 op] w fun e w'=>e=.returned (.int .i64 0)/\w'=w:=by
 have hs:=sig_pos op
 have hp:decide (0<(Nums.sig op).1)=false:=by exact decide_eq_false (fun hp=>by have:=hs.1 hp;omega)
 clear hs
 have q0:(op == 0)=false:=by rw [beq_eq_false_iff_ne];omega
 have q1:(op == 1)=false:=by rw [beq_eq_false_iff_ne];omega
 have q15:(op == 15)=false:=by rw [beq_eq_false_iff_ne];omega
 have q26:(op == 26)=false:=by rw [beq_eq_false_iff_ne];omega
 have q27:(op == 27)=false:=by rw [beq_eq_false_iff_ne];omega
 have q63:(op == 63)=false:=by rw [beq_eq_false_iff_ne];omega
 have q64:(op == 64)=false:=by rw [beq_eq_false_iff_ne];omega
 have q2:(op == 2)=false:=by rw [beq_eq_false_iff_ne];omega
 have q3:(op == 3)=false:=by rw [beq_eq_false_iff_ne];omega
 have q4:(op == 4)=false:=by rw [beq_eq_false_iff_ne];omega
 have q12:(op == 12)=false:=by rw [beq_eq_false_iff_ne];omega
 have q13:(op == 13)=false:=by rw [beq_eq_false_iff_ne];omega
 have q14:(op == 14)=false:=by rw [beq_eq_false_iff_ne];omega
 have q16:(op == 16)=false:=by rw [beq_eq_false_iff_ne];omega
 have q17:(op == 17)=false:=by rw [beq_eq_false_iff_ne];omega
 have q40:(op == 40)=false:=by rw [beq_eq_false_iff_ne];omega
 have q41:(op == 41)=false:=by rw [beq_eq_false_iff_ne];omega
 have q65:(op == 65)=false:=by rw [beq_eq_false_iff_ne];omega
 have q66:(op == 66)=false:=by rw [beq_eq_false_iff_ne];omega
 have q42:(op == 42)=false:=by rw [beq_eq_false_iff_ne];omega
 have q43:(op == 43)=false:=by rw [beq_eq_false_iff_ne];omega
 have q56:(op == 56)=false:=by rw [beq_eq_false_iff_ne];omega
 have q57:(op == 57)=false:=by rw [beq_eq_false_iff_ne];omega
 have q67:(op == 67)=false:=by rw [beq_eq_false_iff_ne];omega
 have q68:(op == 68)=false:=by rw [beq_eq_false_iff_ne];omega
 have r32:decide (32<=op/\op<=36)=false:=decide_eq_false (by omega)
 have R32:=hideM r32
 clear r32
 have r44:decide (44<=op/\op<=55)=false:=decide_eq_false (by omega)
 have R44:=hideM r44
 clear r44
 have r58:decide (58<=op/\op<=62)=false:=decide_eq_false (by omega)
 have R58:=hideM r58
 clear r58
 have r91:decide (91<=op/\op<=102)=false:=decide_eq_false (by omega)
 have R91:=hideM r91
 clear r91
 have r139:decide (139<=op/\op<=166)=false:=decide_eq_false (by omega)
 have R139:=hideM r139
 clear r139
 have r168:decide (168<=op/\op<=171)=false:=decide_eq_false (by omega)
 have R168:=hideM r168
 clear r168
 have r174:decide (174<=op/\op<=191)=false:=decide_eq_false (by omega)
 have R174:=hideM r174
 clear r174
 clear h
 go_enter Tryd.func19,Tryd.ntmps19
 go_wp2_with fail
 refine (refSig _ _).mono ?_
 rintro e u ⟨rfl,rfl⟩
 generalize Nums.sig op=t at *
 go_wp2_with fail
 refine (refIn _ _ _ _).mono ?_
 rintro e u ⟨rfl,rfl⟩
 rw [R32.out]
 go_wp2_with fail
 refine (refIn _ _ _ _).mono ?_
 rintro e u ⟨rfl,rfl⟩
 rw [R44.out]
 go_wp2_with fail
 refine (refIn _ _ _ _).mono ?_
 rintro e u ⟨rfl,rfl⟩
 rw [R58.out]
 go_wp2_with fail
 refine (refIn _ _ _ _).mono ?_
 rintro e u ⟨rfl,rfl⟩
 rw [R91.out]
 go_wp2_with fail
 refine (refIn _ _ _ _).mono ?_
 rintro e u ⟨rfl,rfl⟩
 rw [R139.out]
 go_wp2_with fail
 refine (refIn _ _ _ _).mono ?_
 rintro e u ⟨rfl,rfl⟩
 rw [R168.out]
 go_wp2_with fail
 refine (refIn _ _ _ _).mono ?_
 rintro e u ⟨rfl,rfl⟩
 rw [R174.out]
 go_wp2
 go_ret
 exact ⟨rfl,rfl⟩
end Go.Proofs.YthfapccopngfhaaDoor

