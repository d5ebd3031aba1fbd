/- Texts that the claim needs. -/
import Derived.Test.YthfapccopngfhaaDoorQDex0
namespace Go.Proofs.YthfapccopngfhaaDoor
open Go.RowKit Rep
set_option linter.unusedVariables false
set_option maxHeartbeats 1000000 in
theorem refForm14 (op:Int) (w:World) (h:26<=op/\op<=26):Calls Tryd.prog 19 #[.int .i64 op] w fun e w'=>e=.returned (.int .i64 1)/\w'=w:=by
 have hs:=sig_pos op
 have hp:decide (0<(Nums.sig op).1)=false:=by exact decide_eq_false (fun hp=>by have:=hs.1 hp;omega)
 clear hs
 obtain rfl:op=26:=by omega
 clear h
 go_enter Tryd.func19,Tryd.ntmps19
 go_wp2_with fail
 refine (refSig _ _).mono ?_
 rintro e u ⟨rfl,rfl⟩
 generalize Nums.sig 26=t at *
 go_wp2
 go_ret
 exact ⟨rfl,rfl⟩
set_option maxHeartbeats 1000000 in
theorem refForm15 (op:Int) (w:World) (h:27<=op/\op<=27):Calls Tryd.prog 19 #[.int .i64 op] w fun e w'=>e=.returned (.int .i64 1)/\w'=w:=by
 have hs:=sig_pos op
 have hp:decide (0<(Nums.sig op).1)=false:=by exact decide_eq_false (fun hp=>by have:=hs.1 hp;omega)
 clear hs
 obtain rfl:op=27:=by omega
 clear h
 go_enter Tryd.func19,Tryd.ntmps19
 go_wp2_with fail
 refine (refSig _ _).mono ?_
 rintro e u ⟨rfl,rfl⟩
 generalize Nums.sig 27=t at *
 go_wp2
 go_ret
 exact ⟨rfl,rfl⟩
set_option maxHeartbeats 1000000 in
theorem refForm16 (op:Int) (w:World) (h:28<=op/\op<=31):Calls Tryd.prog 19 #[.int .i64 op] w fun e w'=>e=.returned (.int .i64 0)/\w'=w:=by
 have hs:=sig_pos op
 have hp:decide (0<(Nums.sig op).1)=false:=by exact decide_eq_false (fun hp=>by have:=hs.1 hp;omega)
 clear hs
 have q0:(op == 0)=false:=by rw [beq_eq_false_iff_ne];omega
 have q1:(op == 1)=false:=by rw [beq_eq_false_iff_ne];omega
 have q15:(op == 15)=false:=by rw [beq_eq_false_iff_ne];omega
 have q26:(op == 26)=false:=by rw [beq_eq_false_iff_ne];omega
 have q27:(op == 27)=false:=by rw [beq_eq_false_iff_ne];omega
 have q63:(op == 63)=false:=by rw [beq_eq_false_iff_ne];omega
 have q64:(op == 64)=false:=by rw [beq_eq_false_iff_ne];omega
 have q2:(op == 2)=false:=by rw [beq_eq_false_iff_ne];omega
 have q3:(op == 3)=false:=by rw [beq_eq_false_iff_ne];omega
 have q4:(op == 4)=false:=by rw [beq_eq_false_iff_ne];omega
 have q12:(op == 12)=false:=by rw [beq_eq_false_iff_ne];omega
 have q13:(op == 13)=false:=by rw [beq_eq_false_iff_ne];omega
 have q14:(op == 14)=false:=by rw [beq_eq_false_iff_ne];omega
 have q16:(op == 16)=false:=by rw [beq_eq_false_iff_ne];omega
 have q17:(op == 17)=false:=by rw [beq_eq_false_iff_ne];omega
 have q40:(op == 40)=false:=by rw [beq_eq_false_iff_ne];omega
 have q41:(op == 41)=false:=by rw [beq_eq_false_iff_ne];omega
 have q65:(op == 65)=false:=by rw [beq_eq_false_iff_ne];omega
 have q66:(op == 66)=false:=by rw [beq_eq_false_iff_ne];omega
 have q42:(op == 42)=false:=by rw [beq_eq_false_iff_ne];omega
 have q43:(op == 43)=false:=by rw [beq_eq_false_iff_ne];omega
 have q56:(op == 56)=false:=by rw [beq_eq_false_iff_ne];omega
 have q57:(op == 57)=false:=by rw [beq_eq_false_iff_ne];omega
 have q67:(op == 67)=false:=by rw [beq_eq_false_iff_ne];omega
 have q68:(op == 68)=false:=by rw [beq_eq_false_iff_ne];omega
 have r32:decide (32<=op/\op<=36)=false:=decide_eq_false (by omega)
 have R32:=hideM r32
 clear r32
 have r44:decide (44<=op/\op<=55)=false:=decide_eq_false (by omega)
 have R44:=hideM r44
 clear r44
 have r58:decide (58<=op/\op<=62)=false:=decide_eq_false (by omega)
 have R58:=hideM r58
 clear r58
 have r91:decide (91<=op/\op<=102)=false:=decide_eq_false (by omega)
 have R91:=hideM r91
 clear r91
 have r139:decide (139<=op/\op<=166)=false:=decide_eq_false (by omega)
 have R139:=hideM r139
 clear r139
 have r168:decide (168<=op/\op<=171)=false:=decide_eq_false (by omega)
 have R168:=hideM r168
 clear r168
 have r174:decide (174<=op/\op<=191)=false:=decide_eq_false (by omega)
 have R174:=hideM r174
 clear r174
 clear h
 go_enter Tryd.func19,Tryd.ntmps19
 go_wp2_with fail
 refine (refSig _ _).mono ?_
 rintro e u ⟨rfl,rfl⟩
 generalize Nums.sig op=t at *
 go_wp2_with fail
 refine (refIn _ _ _ _).mono ?_
 rintro e u ⟨rfl,rfl⟩
 rw [R32.out]
 go_wp2_with fail
 refine (refIn _ _ _ _).mono ?_
 rintro e u ⟨rfl,rfl⟩
 rw [R44.out]
 go_wp2_with fail
 refine (refIn _ _ _ _).mono ?_
 rintro e u ⟨rfl,rfl⟩
 rw [R58.out]
 go_wp2_with fail
 refine (refIn _ _ _ _).mono ?_
 rintro e u ⟨rfl,rfl⟩
 rw [R91.out]
 go_wp2_with fail
 refine (refIn _ _ _ _).mono ?_
 rintro e u ⟨rfl,rfl⟩
 rw [R139.out]
 go_wp2_with fail
 refine (refIn _ _ _ _).mono ?_
 rintro e u ⟨rfl,rfl⟩
 rw [R168.out]
 go_wp2_with fail
 refine (refIn _ _ _ _).mono ?_
 rintro e u ⟨rfl,rfl⟩
 rw [R174.out]
 go_wp2
 go_ret
 exact ⟨rfl,rfl⟩
set_option maxHeartbeats 1000000 in
theorem refForm17 (op:Int) (w:World) (h:32<=op/\op<=36):Calls Tryd.prog 19 #[.int .i64 op] w fun e w'=>e=.returned (.int .i64 6)/\w'=w:=by
 have hs:=sig_pos op
 have hp:decide (0<(Nums.sig op).1)=false:=by exact decide_eq_false (fun hp=>by have:=hs.1 hp;omega)
 clear hs
 have q0:(op == 0)=false:=by rw [beq_eq_false_iff_ne];omega
 have q1:(op == 1)=false:=by rw [beq_eq_false_iff_ne];omega
 have q15:(op == 15)=false:=by rw [beq_eq_false_iff_ne];omega
 have q26:(op == 26)=false:=by rw [beq_eq_false_iff_ne];omega
 have q27:(op == 27)=false:=by rw [beq_eq_false_iff_ne];omega
 have q63:(op == 63)=false:=by rw [beq_eq_false_iff_ne];omega
 have q64:(op == 64)=false:=by rw [beq_eq_false_iff_ne];omega
 have q2:(op == 2)=false:=by rw [beq_eq_false_iff_ne];omega
 have q3:(op == 3)=false:=by rw [beq_eq_false_iff_ne];omega
 have q4:(op == 4)=false:=by rw [beq_eq_false_iff_ne];omega
 have q12:(op == 12)=false:=by rw [beq_eq_false_iff_ne];omega
 have q13:(op == 13)=false:=by rw [beq_eq_false_iff_ne];omega
 have q14:(op == 14)=false:=by rw [beq_eq_false_iff_ne];omega
 have q16:(op == 16)=false:=by rw [beq_eq_false_iff_ne];omega
 have q17:(op == 17)=false:=by rw [beq_eq_false_iff_ne];omega
 have q40:(op == 40)=false:=by rw [beq_eq_false_iff_ne];omega
 have q41:(op == 41)=false:=by rw [beq_eq_false_iff_ne];omega
 have q65:(op == 65)=false:=by rw [beq_eq_false_iff_ne];omega
 have q66:(op == 66)=false:=by rw [beq_eq_false_iff_ne];omega
 have q42:(op == 42)=false:=by rw [beq_eq_false_iff_ne];omega
 have q43:(op == 43)=false:=by rw [beq_eq_false_iff_ne];omega
 have q56:(op == 56)=false:=by rw [beq_eq_false_iff_ne];omega
 have q57:(op == 57)=false:=by rw [beq_eq_false_iff_ne];omega
 have q67:(op == 67)=false:=by rw [beq_eq_false_iff_ne];omega
 have q68:(op == 68)=false:=by rw [beq_eq_false_iff_ne];omega
 have r32:decide (32<=op/\op<=36)=true:=decide_eq_true (by omega)
 have R32:=hideM r32
 clear r32
 have r44:decide (44<=op/\op<=55)=false:=decide_eq_false (by omega)
 have R44:=hideM r44
 clear r44
 have r58:decide (58<=op/\op<=62)=false:=decide_eq_false (by omega)
 have R58:=hideM r58
 clear r58
 have r91:decide (91<=op/\op<=102)=false:=decide_eq_false (by omega)
 have R91:=hideM r91
 clear r91
 have r139:decide (139<=op/\op<=166)=false:=decide_eq_false (by omega)
 have R139:=hideM r139
 clear r139
 have r168:decide (168<=op/\op<=171)=false:=decide_eq_false (by omega)
 have R168:=hideM r168
 clear r168
 have r174:decide (174<=op/\op<=191)=false:=decide_eq_false (by omega)
 have R174:=hideM r174
 clear r174
 clear h
 go_enter Tryd.func19,Tryd.ntmps19
 go_wp2_with fail
 refine (refSig _ _).mono ?_
 rintro e u ⟨rfl,rfl⟩
 generalize Nums.sig op=t at *
 go_wp2_with fail
 refine (refIn _ _ _ _).mono ?_
 rintro e u ⟨rfl,rfl⟩
 rw [R32.out]
 go_wp2
 go_ret
 exact ⟨rfl,rfl⟩
set_option maxHeartbeats 1000000 in
theorem refForm18 (op:Int) (w:World) (h:37<=op/\op<=39):Calls Tryd.prog 19 #[.int .i64 op] w fun e w'=>e=.returned (.int .i64 0)/\w'=w:=by
 have hs:=sig_pos op
 have hp:decide (0<(Nums.sig op).1)=false:=by exact decide_eq_false (fun hp=>by have:=hs.1 hp;omega)
 clear hs
 have q0:(op == 0)=false:=by rw [beq_eq_false_iff_ne];omega
 have q1:(op == 1)=false:=by rw [beq_eq_false_iff_ne];omega
 have q15:(op == 15)=false:=by rw [beq_eq_false_iff_ne];omega
 have q26:(op == 26)=false:=by rw [beq_eq_false_iff_ne];omega
 have q27:(op == 27)=false:=by rw [beq_eq_false_iff_ne];omega
 have q63:(op == 63)=false:=by rw [beq_eq_false_iff_ne];omega
 have q64:(op == 64)=false:=by rw [beq_eq_false_iff_ne];omega
 have q2:(op == 2)=false:=by rw [beq_eq_false_iff_ne];omega
 have q3:(op == 3)=false:=by rw [beq_eq_false_iff_ne];omega
 have q4:(op == 4)=false:=by rw [beq_eq_false_iff_ne];omega
 have q12:(op == 12)=false:=by rw [beq_eq_false_iff_ne];omega
 have q13:(op == 13)=false:=by rw [beq_eq_false_iff_ne];omega
 have q14:(op == 14)=false:=by rw [beq_eq_false_iff_ne];omega
 have q16:(op == 16)=false:=by rw [beq_eq_false_iff_ne];omega
 have q17:(op == 17)=false:=by rw [beq_eq_false_iff_ne];omega
 have q40:(op == 40)=false:=by rw [beq_eq_false_iff_ne];omega
 have q41:(op == 41)=false:=by rw [beq_eq_false_iff_ne];omega
 have q65:(op == 65)=false:=by rw [beq_eq_false_iff_ne];omega
 have q66:(op == 66)=false:=by rw [beq_eq_false_iff_ne];omega
 have q42:(op == 42)=false:=by rw [beq_eq_false_iff_ne];omega
 have q43:(op == 43)=false:=by rw [beq_eq_false_iff_ne];omega
 have q56:(op == 56)=false:=by rw [beq_eq_false_iff_ne];omega
 have q57:(op == 57)=false:=by rw [beq_eq_false_iff_ne];omega
 have q67:(op == 67)=false:=by rw [beq_eq_false_iff_ne];omega
 have q68:(op == 68)=false:=by rw [beq_eq_false_iff_ne];omega
 have r32:decide (32<=op/\op<=36)=false:=decide_eq_false (by omega)
 have R32:=hideM r32
 clear r32
 have r44:decide (44<=op/\op<=55)=false:=decide_eq_false (by omega)
 have R44:=hideM r44
 clear r44
 have r58:decide (58<=op/\op<=62)=false:=decide_eq_false (by omega)
 have R58:=hideM r58
 clear r58
 have r91:decide (91<=op/\op<=102)=false:=decide_eq_false (by omega)
 have R91:=hideM r91
 clear r91
 have r139:decide (139<=op/\op<=166)=false:=decide_eq_false (by omega)
 have R139:=hideM r139
 clear r139
 have r168:decide (168<=op/\op<=171)=false:=decide_eq_false (by omega)
 have R168:=hideM r168
 clear r168
 have r174:decide (174<=op/\op<=191)=false:=decide_eq_false (by omega)
 have R174:=hideM r174
 clear r174
 clear h
 go_enter Tryd.func19,Tryd.ntmps19
 go_wp2_with fail
 refine (refSig _ _).mono ?_
 rintro e u ⟨rfl,rfl⟩
 generalize Nums.sig op=t at *
 go_wp2_with fail
 refine (refIn _ _ _ _).mono ?_
 rintro e u ⟨rfl,rfl⟩
 rw [R32.out]
 go_wp2_with fail
 refine (refIn _ _ _ _).mono ?_
 rintro e u ⟨rfl,rfl⟩
 rw [R44.out]
 go_wp2_with fail
 refine (refIn _ _ _ _).mono ?_
 rintro e u ⟨rfl,rfl⟩
 rw [R58.out]
 go_wp2_with fail
 refine (refIn _ _ _ _).mono ?_
 rintro e u ⟨rfl,rfl⟩
 rw [R91.out]
 go_wp2_with fail
 refine (refIn _ _ _ _).mono ?_
 rintro e u ⟨rfl,rfl⟩
 rw [R139.out]
 go_wp2_with fail
 refine (refIn _ _ _ _).mono ?_
 rintro e u ⟨rfl,rfl⟩
 rw [R168.out]
 go_wp2_with fail
 refine (refIn _ _ _ _).mono ?_
 rintro e u ⟨rfl,rfl⟩
 rw [R174.out]
 go_wp2
 go_ret
 exact ⟨rfl,rfl⟩
set_option maxHeartbeats 1000000 in
theorem refForm19 (op:Int) (w:World) (h:40<=op/\op<=40):Calls Tryd.prog 19 #[.int .i64 op] w fun e w'=>e=.returned (.int .i64 8)/\w'=w:=by
 have hs:=sig_pos op
 have hp:decide (0<(Nums.sig op).1)=false:=by exact decide_eq_false (fun hp=>by have:=hs.1 hp;omega)
 clear hs
 obtain rfl:op=40:=by omega
 clear h
 go_enter Tryd.func19,Tryd.ntmps19
 go_wp2_with fail
 refine (refSig _ _).mono ?_
 rintro e u ⟨rfl,rfl⟩
 generalize Nums.sig 40=t at *
 go_wp2_with fail
 refine (refIn _ _ _ _).mono ?_
 rintro e u ⟨rfl,rfl⟩
 rw [show decide ((32:Int)<=40/\(40:Int)<=36)=false by decide]
 go_wp2
 go_ret
 exact ⟨rfl,rfl⟩
set_option maxHeartbeats 1000000 in
theorem refForm20 (op:Int) (w:World) (h:41<=op/\op<=41):Calls Tryd.prog 19 #[.int .i64 op] w fun e w'=>e=.returned (.int .i64 8)/\w'=w:=by
 have hs:=sig_pos op
 have hp:decide (0<(Nums.sig op).1)=false:=by exact decide_eq_false (fun hp=>by have:=hs.1 hp;omega)
 clear hs
 obtain rfl:op=41:=by omega
 clear h
 go_enter Tryd.func19,Tryd.ntmps19
 go_wp2_with fail
 refine (refSig _ _).mono ?_
 rintro e u ⟨rfl,rfl⟩
 generalize Nums.sig 41=t at *
 go_wp2_with fail
 refine (refIn _ _ _ _).mono ?_
 rintro e u ⟨rfl,rfl⟩
 rw [show decide ((32:Int)<=41/\(41:Int)<=36)=false by decide]
 go_wp2
 go_ret
 exact ⟨rfl,rfl⟩
set_option maxHeartbeats 1000000 in
theorem refForm21 (op:Int) (w:World) (h:42<=op/\op<=42):Calls Tryd.prog 19 #[.int .i64 op] w fun e w'=>e=.returned (.int .i64 10)/\w'=w:=by
 have hs:=sig_pos op
 have hp:decide (0<(Nums.sig op).1)=false:=by exact decide_eq_false (fun hp=>by have:=hs.1 hp;omega)
 clear hs
 obtain rfl:op=42:=by omega
 clear h
 go_enter Tryd.func19,Tryd.ntmps19
 go_wp2_with fail
 refine (refSig _ _).mono ?_
 rintro e u ⟨rfl,rfl⟩
 generalize Nums.sig 42=t at *
 go_wp2_with fail
 refine (refIn _ _ _ _).mono ?_
 rintro e u ⟨rfl,rfl⟩
 rw [show decide ((32:Int)<=42/\(42:Int)<=36)=false by decide]
 go_wp2_with fail
 refine (refIn _ _ _ _).mono ?_
 rintro e u ⟨rfl,rfl⟩
 rw [show decide ((44:Int)<=42/\(42:Int)<=55)=false by decide]
 go_wp2_with fail
 refine (refIn _ _ _ _).mono ?_
 rintro e u ⟨rfl,rfl⟩
 rw [show decide ((58:Int)<=42/\(42:Int)<=62)=false by decide]
 go_wp2
 go_ret
 exact ⟨rfl,rfl⟩
set_option maxHeartbeats 1000000 in
theorem refForm22 (op:Int) (w:World) (h:43<=op/\op<=43):Calls Tryd.prog 19 #[.int .i64 op] w fun e w'=>e=.returned (.int .i64 10)/\w'=w:=by
 have hs:=sig_pos op
 have hp:decide (0<(Nums.sig op).1)=false:=by exact decide_eq_false (fun hp=>by have:=hs.1 hp;omega)
 clear hs
 obtain rfl:op=43:=by omega
 clear h
 go_enter Tryd.func19,Tryd.ntmps19
 go_wp2_with fail
 refine (refSig _ _).mono ?_
 rintro e u ⟨rfl,rfl⟩
 generalize Nums.sig 43=t at *
 go_wp2_with fail
 refine (refIn _ _ _ _).mono ?_
 rintro e u ⟨rfl,rfl⟩
 rw [show decide ((32:Int)<=43/\(43:Int)<=36)=false by decide]
 go_wp2_with fail
 refine (refIn _ _ _ _).mono ?_
 rintro e u ⟨rfl,rfl⟩
 rw [show decide ((44:Int)<=43/\(43:Int)<=55)=false by decide]
 go_wp2_with fail
 refine (refIn _ _ _ _).mono ?_
 rintro e u ⟨rfl,rfl⟩
 rw [show decide ((58:Int)<=43/\(43:Int)<=62)=false by decide]
 go_wp2
 go_ret
 exact ⟨rfl,rfl⟩
set_option maxHeartbeats 1000000 in
theorem refForm23 (op:Int) (w:World) (h:44<=op/\op<=55):Calls Tryd.prog 19 #[.int .i64 op] w fun e w'=>e=.returned (.int .i64 8)/\w'=w:=by
 have hs:=sig_pos op
 have hp:decide (0<(Nums.sig op).1)=false:=by exact decide_eq_false (fun hp=>by have:=hs.1 hp;omega)
 clear hs
 have q0:(op == 0)=false:=by rw [beq_eq_false_iff_ne];omega
 have q1:(op == 1)=false:=by rw [beq_eq_false_iff_ne];omega
 have q15:(op == 15)=false:=by rw [beq_eq_false_iff_ne];omega
 have q26:(op == 26)=false:=by rw [beq_eq_false_iff_ne];omega
 have q27:(op == 27)=false:=by rw [beq_eq_false_iff_ne];omega
 have q63:(op == 63)=false:=by rw [beq_eq_false_iff_ne];omega
 have q64:(op == 64)=false:=by rw [beq_eq_false_iff_ne];omega
 have q2:(op == 2)=false:=by rw [beq_eq_false_iff_ne];omega
 have q3:(op == 3)=false:=by rw [beq_eq_false_iff_ne];omega
 have q4:(op == 4)=false:=by rw [beq_eq_false_iff_ne];omega
 have q12:(op == 12)=false:=by rw [beq_eq_false_iff_ne];omega
 have q13:(op == 13)=false:=by rw [beq_eq_false_iff_ne];omega
 have q14:(op == 14)=false:=by rw [beq_eq_false_iff_ne];omega
 have q16:(op == 16)=false:=by rw [beq_eq_false_iff_ne];omega
 have q17:(op == 17)=false:=by rw [beq_eq_false_iff_ne];omega
 have q40:(op == 40)=false:=by rw [beq_eq_false_iff_ne];omega
 have q41:(op == 41)=false:=by rw [beq_eq_false_iff_ne];omega
 have q65:(op == 65)=false:=by rw [beq_eq_false_iff_ne];omega
 have q66:(op == 66)=false:=by rw [beq_eq_false_iff_ne];omega
 have q42:(op == 42)=false:=by rw [beq_eq_false_iff_ne];omega
 have q43:(op == 43)=false:=by rw [beq_eq_false_iff_ne];omega
 have q56:(op == 56)=false:=by rw [beq_eq_false_iff_ne];omega
 have q57:(op == 57)=false:=by rw [beq_eq_false_iff_ne];omega
 have q67:(op == 67)=false:=by rw [beq_eq_false_iff_ne];omega
 have q68:(op == 68)=false:=by rw [beq_eq_false_iff_ne];omega
 have r32:decide (32<=op/\op<=36)=false:=decide_eq_false (by omega)
 have R32:=hideM r32
 clear r32
 have r44:decide (44<=op/\op<=55)=true:=decide_eq_true (by omega)
 have R44:=hideM r44
 clear r44
 have r58:decide (58<=op/\op<=62)=false:=decide_eq_false (by omega)
 have R58:=hideM r58
 clear r58
 have r91:decide (91<=op/\op<=102)=false:=decide_eq_false (by omega)
 have R91:=hideM r91
 clear r91
 have r139:decide (139<=op/\op<=166)=false:=decide_eq_false (by omega)
 have R139:=hideM r139
 clear r139
 have r168:decide (168<=op/\op<=171)=false:=decide_eq_false (by omega)
 have R168:=hideM r168
 clear r168
 have r174:decide (174<=op/\op<=191)=false:=decide_eq_false (by omega)
 have R174:=hideM r174
 clear r174
 clear h
 go_enter Tryd.func19,Tryd.ntmps19
 go_wp2_with fail
 refine (refSig _ _).mono ?_
 rintro e u ⟨rfl,rfl⟩
 generalize Nums.sig op=t at *
 go_wp2_with fail
 refine (refIn _ _ _ _).mono ?_
 rintro e u ⟨rfl,rfl⟩
 rw [R32.out]
 go_wp2_with fail
 refine (refIn _ _ _ _).mono ?_
 rintro e u ⟨rfl,rfl⟩
 rw [R44.out]
 go_wp2
 go_ret
 exact ⟨rfl,rfl⟩
set_option maxHeartbeats 1000000 in
theorem refForm24 (op:Int) (w:World) (h:56<=op/\op<=56):Calls Tryd.prog 19 #[.int .i64 op] w fun e w'=>e=.returned (.int .i64 10)/\w'=w:=by
 have hs:=sig_pos op
 have hp:decide (0<(Nums.sig op).1)=false:=by exact decide_eq_false (fun hp=>by have:=hs.1 hp;omega)
 clear hs
 obtain rfl:op=56:=by omega
 clear h
 go_enter Tryd.func19,Tryd.ntmps19
 go_wp2_with fail
 refine (refSig _ _).mono ?_
 rintro e u ⟨rfl,rfl⟩
 generalize Nums.sig 56=t at *
 go_wp2_with fail
 refine (refIn _ _ _ _).mono ?_
 rintro e u ⟨rfl,rfl⟩
 rw [show decide ((32:Int)<=56/\(56:Int)<=36)=false by decide]
 go_wp2_with fail
 refine (refIn _ _ _ _).mono ?_
 rintro e u ⟨rfl,rfl⟩
 rw [show decide ((44:Int)<=56/\(56:Int)<=55)=false by decide]
 go_wp2_with fail
 refine (refIn _ _ _ _).mono ?_
 rintro e u ⟨rfl,rfl⟩
 rw [show decide ((58:Int)<=56/\(56:Int)<=62)=false by decide]
 go_wp2
 go_ret
 exact ⟨rfl,rfl⟩
set_option maxHeartbeats 1000000 in
theorem refForm25 (op:Int) (w:World) (h:57<=op/\op<=57):Calls Tryd.prog 19 #[.int .i64 op] w fun e w'=>e=.returned (.int .i64 10)/\w'=w:=by
 have hs:=sig_pos op
 have hp:decide (0<(Nums.sig op).1)=false:=by exact decide_eq_false (fun hp=>by have:=hs.1 hp;omega)
 clear hs
 obtain rfl:op=57:=by omega
 clear h
 go_enter Tryd.func19,Tryd.ntmps19
 go_wp2_with fail
 refine (refSig _ _).mono ?_
 rintro e u ⟨rfl,rfl⟩
 generalize Nums.sig 57=t at *
 go_wp2_with fail
 refine (refIn _ _ _ _).mono ?_
 rintro e u ⟨rfl,rfl⟩
 rw [show decide ((32:Int)<=57/\(57:Int)<=36)=false by decide]
 go_wp2_with fail
 refine (refIn _ _ _ _).mono ?_
 rintro e u ⟨rfl,rfl⟩
 rw [show decide ((44:Int)<=57/\(57:Int)<=55)=false by decide]
 go_wp2_with fail
 refine (refIn _ _ _ _).mono ?_
 rintro e u ⟨rfl,rfl⟩
 rw [show decide ((58:Int)<=57/\(57:Int)<=62)=false by decide]
 go_wp2
 go_ret
 exact ⟨rfl,rfl⟩
set_option maxHeartbeats 1000000 in
theorem refForm26 (op:Int) (w:World) (h:58<=op/\op<=62):Calls Tryd.prog 19 #[.int .i64 op] w fun e w'=>e=.returned (.int .i64 8)/\w'=w:=by
 have hs:=sig_pos op
 have hp:decide (0<(Nums.sig op).1)=false:=by exact decide_eq_false (fun hp=>by have:=hs.1 hp;omega)
 clear hs
 have q0:(op == 0)=false:=by rw [beq_eq_false_iff_ne];omega
 have q1:(op == 1)=false:=by rw [beq_eq_false_iff_ne];omega
 have q15:(op == 15)=false:=by rw [beq_eq_false_iff_ne];omega
 have q26:(op == 26)=false:=by rw [beq_eq_false_iff_ne];omega
 have q27:(op == 27)=false:=by rw [beq_eq_false_iff_ne];omega
 have q63:(op == 63)=false:=by rw [beq_eq_false_iff_ne];omega
 have q64:(op == 64)=false:=by rw [beq_eq_false_iff_ne];omega
 have q2:(op == 2)=false:=by rw [beq_eq_false_iff_ne];omega
 have q3:(op == 3)=false:=by rw [beq_eq_false_iff_ne];omega
 have q4:(op == 4)=false:=by rw [beq_eq_false_iff_ne];omega
 have q12:(op == 12)=false:=by rw [beq_eq_false_iff_ne];omega
 have q13:(op == 13)=false:=by rw [beq_eq_false_iff_ne];omega
 have q14:(op == 14)=false:=by rw [beq_eq_false_iff_ne];omega
 have q16:(op == 16)=false:=by rw [beq_eq_false_iff_ne];omega
 have q17:(op == 17)=false:=by rw [beq_eq_false_iff_ne];omega
 have q40:(op == 40)=false:=by rw [beq_eq_false_iff_ne];omega
 have q41:(op == 41)=false:=by rw [beq_eq_false_iff_ne];omega
 have q65:(op == 65)=false:=by rw [beq_eq_false_iff_ne];omega
 have q66:(op == 66)=false:=by rw [beq_eq_false_iff_ne];omega
 have q42:(op == 42)=false:=by rw [beq_eq_false_iff_ne];omega
 have q43:(op == 43)=false:=by rw [beq_eq_false_iff_ne];omega
 have q56:(op == 56)=false:=by rw [beq_eq_false_iff_ne];omega
 have q57:(op == 57)=false:=by rw [beq_eq_false_iff_ne];omega
 have q67:(op == 67)=false:=by rw [beq_eq_false_iff_ne];omega
 have q68:(op == 68)=false:=by rw [beq_eq_false_iff_ne];omega
 have r32:decide (32<=op/\op<=36)=false:=decide_eq_false (by omega)
 have R32:=hideM r32
 clear r32
 have r44:decide (44<=op/\op<=55)=false:=decide_eq_false (by omega)
 have R44:=hideM r44
 clear r44
 have r58:decide (58<=op/\op<=62)=true:=decide_eq_true (by omega)
 have R58:=hideM r58
 clear r58
 have r91:decide (91<=op/\op<=102)=false:=decide_eq_false (by omega)
 have R91:=hideM r91
 clear r91
 have r139:decide (139<=op/\op<=166)=false:=decide_eq_false (by omega)
 have R139:=hideM r139
 clear r139
 have r168:decide (168<=op/\op<=171)=false:=decide_eq_false (by omega)
 have R168:=hideM r168
 clear r168
 have r174:decide (174<=op/\op<=191)=false:=decide_eq_false (by omega)
 have R174:=hideM r174
 clear r174
 clear h
 go_enter Tryd.func19,Tryd.ntmps19
 go_wp2_with fail
 refine (refSig _ _).mono ?_
 rintro e u ⟨rfl,rfl⟩
 generalize Nums.sig op=t at *
 go_wp2_with fail
 refine (refIn _ _ _ _).mono ?_
 rintro e u ⟨rfl,rfl⟩
 rw [R32.out]
 go_wp2_with fail
 refine (refIn _ _ _ _).mono ?_
 rintro e u ⟨rfl,rfl⟩
 rw [R44.out]
 go_wp2_with fail
 refine (refIn _ _ _ _).mono ?_
 rintro e u ⟨rfl,rfl⟩
 rw [R58.out]
 go_wp2
 go_ret
 exact ⟨rfl,rfl⟩
set_option maxHeartbeats 1000000 in
theorem refForm27 (op:Int) (w:World) (h:63<=op/\op<=63):Calls Tryd.prog 19 #[.int .i64 op] w fun e w'=>e=.returned (.int .i64 1)/\w'=w:=by
 have hs:=sig_pos op
 have hp:decide (0<(Nums.sig op).1)=false:=by exact decide_eq_false (fun hp=>by have:=hs.1 hp;omega)
 clear hs
 obtain rfl:op=63:=by omega
 clear h
 go_enter Tryd.func19,Tryd.ntmps19
 go_wp2_with fail
 refine (refSig _ _).mono ?_
 rintro e u ⟨rfl,rfl⟩
 generalize Nums.sig 63=t at *
 go_wp2
 go_ret
 exact ⟨rfl,rfl⟩
end Go.Proofs.YthfapccopngfhaaDoor

