/- Texts that the claim needs. -/
import Derived.Test.YthfapccopngfhaaDoorQDex0
namespace Go.Proofs.YthfapccopngfhaaDoor
open Go.RowKit Rep
set_option linter.unusedVariables false
set_option maxHeartbeats 1000000 in
theorem refForm0 (op:Int) (w:World) (h:op<=-1):Calls Tryd.prog 19 #[.int .i64 op] w fun e w'=>e=.returned (.int .i64 0)/\w'=w:=by
 have hs:=sig_pos op
 have hp:decide (0<(Nums.sig op).1)=false:=by exact decide_eq_false (fun hp=>by have:=hs.1 hp;omega)
 clear hs
 have q0:(op == 0)=false:=by rw [beq_eq_false_iff_ne];omega
 have q1:(op == 1)=false:=by rw [beq_eq_false_iff_ne];omega
 have q15:(op == 15)=false:=by rw [beq_eq_false_iff_ne];omega
 have q26:(op == 26)=false:=by rw [beq_eq_false_iff_ne];omega
 have q27:(op == 27)=false:=by rw [beq_eq_false_iff_ne];omega
 have q63:(op == 63)=false:=by rw [beq_eq_false_iff_ne];omega
 have q64:(op == 64)=false:=by rw [beq_eq_false_iff_ne];omega
 have q2:(op == 2)=false:=by rw [beq_eq_false_iff_ne];omega
 have q3:(op == 3)=false:=by rw [beq_eq_false_iff_ne];omega
 have q4:(op == 4)=false:=by rw [beq_eq_false_iff_ne];omega
 have q12:(op == 12)=false:=by rw [beq_eq_false_iff_ne];omega
 have q13:(op == 13)=false:=by rw [beq_eq_false_iff_ne];omega
 have q14:(op == 14)=false:=by rw [beq_eq_false_iff_ne];omega
 have q16:(op == 16)=false:=by rw [beq_eq_false_iff_ne];omega
 have q17:(op == 17)=false:=by rw [beq_eq_false_iff_ne];omega
 have q40:(op == 40)=false:=by rw [beq_eq_false_iff_ne];omega
 have q41:(op == 41)=false:=by rw [beq_eq_false_iff_ne];omega
 have q65:(op == 65)=false:=by rw [beq_eq_false_iff_ne];omega
 have q66:(op == 66)=false:=by rw [beq_eq_false_iff_ne];omega
 have q42:(op == 42)=false:=by rw [beq_eq_false_iff_ne];omega
 have q43:(op == 43)=false:=by rw [beq_eq_false_iff_ne];omega
 have q56:(op == 56)=false:=by rw [beq_eq_false_iff_ne];omega
 have q57:(op == 57)=false:=by rw [beq_eq_false_iff_ne];omega
 have q67:(op == 67)=false:=by rw [beq_eq_false_iff_ne];omega
 have q68:(op == 68)=false:=by rw [beq_eq_false_iff_ne];omega
 have r32:decide (32<=op/\op<=36)=false:=decide_eq_false (by omega)
 have R32:=hideM r32
 clear r32
 have r44:decide (44<=op/\op<=55)=false:=decide_eq_false (by omega)
 have R44:=hideM r44
 clear r44
 have r58:decide (58<=op/\op<=62)=false:=decide_eq_false (by omega)
 have R58:=hideM r58
 clear r58
 have r91:decide (91<=op/\op<=102)=false:=decide_eq_false (by omega)
 have R91:=hideM r91
 clear r91
 have r139:decide (139<=op/\op<=166)=false:=decide_eq_false (by omega)
 have R139:=hideM r139
 clear r139
 have r168:decide (168<=op/\op<=171)=false:=decide_eq_false (by omega)
 have R168:=hideM r168
 clear r168
 have r174:decide (174<=op/\op<=191)=false:=decide_eq_false (by omega)
 have R174:=hideM r174
 clear r174
 clear h
 go_enter Tryd.func19,Tryd.ntmps19
 go_wp2_with fail
 refine (refSig _ _).mono ?_
 rintro e u ⟨rfl,rfl⟩
 generalize Nums.sig op=t at *
 go_wp2_with fail
 refine (refIn _ _ _ _).mono ?_
 rintro e u ⟨rfl,rfl⟩
 rw [R32.out]
 go_wp2_with fail
 refine (refIn _ _ _ _).mono ?_
 rintro e u ⟨rfl,rfl⟩
 rw [R44.out]
 go_wp2_with fail
 refine (refIn _ _ _ _).mono ?_
 rintro e u ⟨rfl,rfl⟩
 rw [R58.out]
 go_wp2_with fail
 refine (refIn _ _ _ _).mono ?_
 rintro e u ⟨rfl,rfl⟩
 rw [R91.out]
 go_wp2_with fail
 refine (refIn _ _ _ _).mono ?_
 rintro e u ⟨rfl,rfl⟩
 rw [R139.out]
 go_wp2_with fail
 refine (refIn _ _ _ _).mono ?_
 rintro e u ⟨rfl,rfl⟩
 rw [R168.out]
 go_wp2_with fail
 refine (refIn _ _ _ _).mono ?_
 rintro e u ⟨rfl,rfl⟩
 rw [R174.out]
 go_wp2
 go_ret
 exact ⟨rfl,rfl⟩
set_option maxHeartbeats 1000000 in
theorem refForm1 (op:Int) (w:World) (h:0<=op/\op<=0):Calls Tryd.prog 19 #[.int .i64 op] w fun e w'=>e=.returned (.int .i64 1)/\w'=w:=by
 have hs:=sig_pos op
 have hp:decide (0<(Nums.sig op).1)=false:=by exact decide_eq_false (fun hp=>by have:=hs.1 hp;omega)
 clear hs
 obtain rfl:op=0:=by omega
 clear h
 go_enter Tryd.func19,Tryd.ntmps19
 go_wp2_with fail
 refine (refSig _ _).mono ?_
 rintro e u ⟨rfl,rfl⟩
 generalize Nums.sig 0=t at *
 go_wp2
 go_ret
 exact ⟨rfl,rfl⟩
set_option maxHeartbeats 1000000 in
theorem refForm2 (op:Int) (w:World) (h:1<=op/\op<=1):Calls Tryd.prog 19 #[.int .i64 op] w fun e w'=>e=.returned (.int .i64 1)/\w'=w:=by
 have hs:=sig_pos op
 have hp:decide (0<(Nums.sig op).1)=false:=by exact decide_eq_false (fun hp=>by have:=hs.1 hp;omega)
 clear hs
 obtain rfl:op=1:=by omega
 clear h
 go_enter Tryd.func19,Tryd.ntmps19
 go_wp2_with fail
 refine (refSig _ _).mono ?_
 rintro e u ⟨rfl,rfl⟩
 generalize Nums.sig 1=t at *
 go_wp2
 go_ret
 exact ⟨rfl,rfl⟩
set_option maxHeartbeats 1000000 in
theorem refForm3 (op:Int) (w:World) (h:2<=op/\op<=2):Calls Tryd.prog 19 #[.int .i64 op] w fun e w'=>e=.returned (.int .i64 2)/\w'=w:=by
 have hs:=sig_pos op
 have hp:decide (0<(Nums.sig op).1)=false:=by exact decide_eq_false (fun hp=>by have:=hs.1 hp;omega)
 clear hs
 obtain rfl:op=2:=by omega
 clear h
 go_enter Tryd.func19,Tryd.ntmps19
 go_wp2_with fail
 refine (refSig _ _).mono ?_
 rintro e u ⟨rfl,rfl⟩
 generalize Nums.sig 2=t at *
 go_wp2
 go_ret
 exact ⟨rfl,rfl⟩
set_option maxHeartbeats 1000000 in
theorem refForm4 (op:Int) (w:World) (h:3<=op/\op<=3):Calls Tryd.prog 19 #[.int .i64 op] w fun e w'=>e=.returned (.int .i64 2)/\w'=w:=by
 have hs:=sig_pos op
 have hp:decide (0<(Nums.sig op).1)=false:=by exact decide_eq_false (fun hp=>by have:=hs.1 hp;omega)
 clear hs
 obtain rfl:op=3:=by omega
 clear h
 go_enter Tryd.func19,Tryd.ntmps19
 go_wp2_with fail
 refine (refSig _ _).mono ?_
 rintro e u ⟨rfl,rfl⟩
 generalize Nums.sig 3=t at *
 go_wp2
 go_ret
 exact ⟨rfl,rfl⟩
set_option maxHeartbeats 1000000 in
theorem refForm5 (op:Int) (w:World) (h:4<=op/\op<=4):Calls Tryd.prog 19 #[.int .i64 op] w fun e w'=>e=.returned (.int .i64 3)/\w'=w:=by
 have hs:=sig_pos op
 have hp:decide (0<(Nums.sig op).1)=false:=by exact decide_eq_false (fun hp=>by have:=hs.1 hp;omega)
 clear hs
 obtain rfl:op=4:=by omega
 clear h
 go_enter Tryd.func19,Tryd.ntmps19
 go_wp2_with fail
 refine (refSig _ _).mono ?_
 rintro e u ⟨rfl,rfl⟩
 generalize Nums.sig 4=t at *
 go_wp2
 go_ret
 exact ⟨rfl,rfl⟩
set_option maxHeartbeats 1000000 in
theorem refForm6 (op:Int) (w:World) (h:5<=op/\op<=11):Calls Tryd.prog 19 #[.int .i64 op] w fun e w'=>e=.returned (.int .i64 0)/\w'=w:=by
 have hs:=sig_pos op
 have hp:decide (0<(Nums.sig op).1)=false:=by exact decide_eq_false (fun hp=>by have:=hs.1 hp;omega)
 clear hs
 have q0:(op == 0)=false:=by rw [beq_eq_false_iff_ne];omega
 have q1:(op == 1)=false:=by rw [beq_eq_false_iff_ne];omega
 have q15:(op == 15)=false:=by rw [beq_eq_false_iff_ne];omega
 have q26:(op == 26)=false:=by rw [beq_eq_false_iff_ne];omega
 have q27:(op == 27)=false:=by rw [beq_eq_false_iff_ne];omega
 have q63:(op == 63)=false:=by rw [beq_eq_false_iff_ne];omega
 have q64:(op == 64)=false:=by rw [beq_eq_false_iff_ne];omega
 have q2:(op == 2)=false:=by rw [beq_eq_false_iff_ne];omega
 have q3:(op == 3)=false:=by rw [beq_eq_false_iff_ne];omega
 have q4:(op == 4)=false:=by rw [beq_eq_false_iff_ne];omega
 have q12:(op == 12)=false:=by rw [beq_eq_false_iff_ne];omega
 have q13:(op == 13)=false:=by rw [beq_eq_false_iff_ne];omega
 have q14:(op == 14)=false:=by rw [beq_eq_false_iff_ne];omega
 have q16:(op == 16)=false:=by rw [beq_eq_false_iff_ne];omega
 have q17:(op == 17)=false:=by rw [beq_eq_false_iff_ne];omega
 have q40:(op == 40)=false:=by rw [beq_eq_false_iff_ne];omega
 have q41:(op == 41)=false:=by rw [beq_eq_false_iff_ne];omega
 have q65:(op == 65)=false:=by rw [beq_eq_false_iff_ne];omega
 have q66:(op == 66)=false:=by rw [beq_eq_false_iff_ne];omega
 have q42:(op == 42)=false:=by rw [beq_eq_false_iff_ne];omega
 have q43:(op == 43)=false:=by rw [beq_eq_false_iff_ne];omega
 have q56:(op == 56)=false:=by rw [beq_eq_false_iff_ne];omega
 have q57:(op == 57)=false:=by rw [beq_eq_false_iff_ne];omega
 have q67:(op == 67)=false:=by rw [beq_eq_false_iff_ne];omega
 have q68:(op == 68)=false:=by rw [beq_eq_false_iff_ne];omega
 have r32:decide (32<=op/\op<=36)=false:=decide_eq_false (by omega)
 have R32:=hideM r32
 clear r32
 have r44:decide (44<=op/\op<=55)=false:=decide_eq_false (by omega)
 have R44:=hideM r44
 clear r44
 have r58:decide (58<=op/\op<=62)=false:=decide_eq_false (by omega)
 have R58:=hideM r58
 clear r58
 have r91:decide (91<=op/\op<=102)=false:=decide_eq_false (by omega)
 have R91:=hideM r91
 clear r91
 have r139:decide (139<=op/\op<=166)=false:=decide_eq_false (by omega)
 have R139:=hideM r139
 clear r139
 have r168:decide (168<=op/\op<=171)=false:=decide_eq_false (by omega)
 have R168:=hideM r168
 clear r168
 have r174:decide (174<=op/\op<=191)=false:=decide_eq_false (by omega)
 have R174:=hideM r174
 clear r174
 clear h
 go_enter Tryd.func19,Tryd.ntmps19
 go_wp2_with fail
 refine (refSig _ _).mono ?_
 rintro e u ⟨rfl,rfl⟩
 generalize Nums.sig op=t at *
 go_wp2_with fail
 refine (refIn _ _ _ _).mono ?_
 rintro e u ⟨rfl,rfl⟩
 rw [R32.out]
 go_wp2_with fail
 refine (refIn _ _ _ _).mono ?_
 rintro e u ⟨rfl,rfl⟩
 rw [R44.out]
 go_wp2_with fail
 refine (refIn _ _ _ _).mono ?_
 rintro e u ⟨rfl,rfl⟩
 rw [R58.out]
 go_wp2_with fail
 refine (refIn _ _ _ _).mono ?_
 rintro e u ⟨rfl,rfl⟩
 rw [R91.out]
 go_wp2_with fail
 refine (refIn _ _ _ _).mono ?_
 rintro e u ⟨rfl,rfl⟩
 rw [R139.out]
 go_wp2_with fail
 refine (refIn _ _ _ _).mono ?_
 rintro e u ⟨rfl,rfl⟩
 rw [R168.out]
 go_wp2_with fail
 refine (refIn _ _ _ _).mono ?_
 rintro e u ⟨rfl,rfl⟩
 rw [R174.out]
 go_wp2
 go_ret
 exact ⟨rfl,rfl⟩
set_option maxHeartbeats 1000000 in
theorem refForm7 (op:Int) (w:World) (h:12<=op/\op<=12):Calls Tryd.prog 19 #[.int .i64 op] w fun e w'=>e=.returned (.int .i64 4)/\w'=w:=by
 have hs:=sig_pos op
 have hp:decide (0<(Nums.sig op).1)=false:=by exact decide_eq_false (fun hp=>by have:=hs.1 hp;omega)
 clear hs
 obtain rfl:op=12:=by omega
 clear h
 go_enter Tryd.func19,Tryd.ntmps19
 go_wp2_with fail
 refine (refSig _ _).mono ?_
 rintro e u ⟨rfl,rfl⟩
 generalize Nums.sig 12=t at *
 go_wp2
 go_ret
 exact ⟨rfl,rfl⟩
set_option maxHeartbeats 1000000 in
theorem refForm8 (op:Int) (w:World) (h:13<=op/\op<=13):Calls Tryd.prog 19 #[.int .i64 op] w fun e w'=>e=.returned (.int .i64 4)/\w'=w:=by
 have hs:=sig_pos op
 have hp:decide (0<(Nums.sig op).1)=false:=by exact decide_eq_false (fun hp=>by have:=hs.1 hp;omega)
 clear hs
 obtain rfl:op=13:=by omega
 clear h
 go_enter Tryd.func19,Tryd.ntmps19
 go_wp2_with fail
 refine (refSig _ _).mono ?_
 rintro e u ⟨rfl,rfl⟩
 generalize Nums.sig 13=t at *
 go_wp2
 go_ret
 exact ⟨rfl,rfl⟩
set_option maxHeartbeats 1000000 in
theorem refForm9 (op:Int) (w:World) (h:14<=op/\op<=14):Calls Tryd.prog 19 #[.int .i64 op] w fun e w'=>e=.returned (.int .i64 5)/\w'=w:=by
 have hs:=sig_pos op
 have hp:decide (0<(Nums.sig op).1)=false:=by exact decide_eq_false (fun hp=>by have:=hs.1 hp;omega)
 clear hs
 obtain rfl:op=14:=by omega
 clear h
 go_enter Tryd.func19,Tryd.ntmps19
 go_wp2_with fail
 refine (refSig _ _).mono ?_
 rintro e u ⟨rfl,rfl⟩
 generalize Nums.sig 14=t at *
 go_wp2
 go_ret
 exact ⟨rfl,rfl⟩
set_option maxHeartbeats 1000000 in
theorem refForm10 (op:Int) (w:World) (h:15<=op/\op<=15):Calls Tryd.prog 19 #[.int .i64 op] w fun e w'=>e=.returned (.int .i64 1)/\w'=w:=by
 have hs:=sig_pos op
 have hp:decide (0<(Nums.sig op).1)=false:=by exact decide_eq_false (fun hp=>by have:=hs.1 hp;omega)
 clear hs
 obtain rfl:op=15:=by omega
 clear h
 go_enter Tryd.func19,Tryd.ntmps19
 go_wp2_with fail
 refine (refSig _ _).mono ?_
 rintro e u ⟨rfl,rfl⟩
 generalize Nums.sig 15=t at *
 go_wp2
 go_ret
 exact ⟨rfl,rfl⟩
set_option maxHeartbeats 1000000 in
theorem refForm11 (op:Int) (w:World) (h:16<=op/\op<=16):Calls Tryd.prog 19 #[.int .i64 op] w fun e w'=>e=.returned (.int .i64 6)/\w'=w:=by
 have hs:=sig_pos op
 have hp:decide (0<(Nums.sig op).1)=false:=by exact decide_eq_false (fun hp=>by have:=hs.1 hp;omega)
 clear hs
 obtain rfl:op=16:=by omega
 clear h
 go_enter Tryd.func19,Tryd.ntmps19
 go_wp2_with fail
 refine (refSig _ _).mono ?_
 rintro e u ⟨rfl,rfl⟩
 generalize Nums.sig 16=t at *
 go_wp2
 go_ret
 exact ⟨rfl,rfl⟩
set_option maxHeartbeats 1000000 in
theorem refForm12 (op:Int) (w:World) (h:17<=op/\op<=17):Calls Tryd.prog 19 #[.int .i64 op] w fun e w'=>e=.returned (.int .i64 7)/\w'=w:=by
 have hs:=sig_pos op
 have hp:decide (0<(Nums.sig op).1)=false:=by exact decide_eq_false (fun hp=>by have:=hs.1 hp;omega)
 clear hs
 obtain rfl:op=17:=by omega
 clear h
 go_enter Tryd.func19,Tryd.ntmps19
 go_wp2_with fail
 refine (refSig _ _).mono ?_
 rintro e u ⟨rfl,rfl⟩
 generalize Nums.sig 17=t at *
 go_wp2_with fail
 refine (refIn _ _ _ _).mono ?_
 rintro e u ⟨rfl,rfl⟩
 rw [show decide ((32:Int)<=17/\(17:Int)<=36)=false by decide]
 go_wp2
 go_ret
 exact ⟨rfl,rfl⟩
set_option maxHeartbeats 1000000 in
theorem refForm13 (op:Int) (w:World) (h:18<=op/\op<=25):Calls Tryd.prog 19 #[.int .i64 op] w fun e w'=>e=.returned (.int .i64 0)/\w'=w:=by
 have hs:=sig_pos op
 have hp:decide (0<(Nums.sig op).1)=false:=by exact decide_eq_false (fun hp=>by have:=hs.1 hp;omega)
 clear hs
 have q0:(op == 0)=false:=by rw [beq_eq_false_iff_ne];omega
 have q1:(op == 1)=false:=by rw [beq_eq_false_iff_ne];omega
 have q15:(op == 15)=false:=by rw [beq_eq_false_iff_ne];omega
 have q26:(op == 26)=false:=by rw [beq_eq_false_iff_ne];omega
 have q27:(op == 27)=false:=by rw [beq_eq_false_iff_ne];omega
 have q63:(op == 63)=false:=by rw [beq_eq_false_iff_ne];omega
 have q64:(op == 64)=false:=by rw [beq_eq_false_iff_ne];omega
 have q2:(op == 2)=false:=by rw [beq_eq_false_iff_ne];omega
 have q3:(op == 3)=false:=by rw [beq_eq_false_iff_ne];omega
 have q4:(op == 4)=false:=by rw [beq_eq_false_iff_ne];omega
 have q12:(op == 12)=false:=by rw [beq_eq_false_iff_ne];omega
 have q13:(op == 13)=false:=by rw [beq_eq_false_iff_ne];omega
 have q14:(op == 14)=false:=by rw [beq_eq_false_iff_ne];omega
 have q16:(op == 16)=false:=by rw [beq_eq_false_iff_ne];omega
 have q17:(op == 17)=false:=by rw [beq_eq_false_iff_ne];omega
 have q40:(op == 40)=false:=by rw [beq_eq_false_iff_ne];omega
 have q41:(op == 41)=false:=by rw [beq_eq_false_iff_ne];omega
 have q65:(op == 65)=false:=by rw [beq_eq_false_iff_ne];omega
 have q66:(op == 66)=false:=by rw [beq_eq_false_iff_ne];omega
 have q42:(op == 42)=false:=by rw [beq_eq_false_iff_ne];omega
 have q43:(op == 43)=false:=by rw [beq_eq_false_iff_ne];omega
 have q56:(op == 56)=false:=by rw [beq_eq_false_iff_ne];omega
 have q57:(op == 57)=false:=by rw [beq_eq_false_iff_ne];omega
 have q67:(op == 67)=false:=by rw [beq_eq_false_iff_ne];omega
 have q68:(op == 68)=false:=by rw [beq_eq_false_iff_ne];omega
 have r32:decide (32<=op/\op<=36)=false:=decide_eq_false (by omega)
 have R32:=hideM r32
 clear r32
 have r44:decide (44<=op/\op<=55)=false:=decide_eq_false (by omega)
 have R44:=hideM r44
 clear r44
 have r58:decide (58<=op/\op<=62)=false:=decide_eq_false (by omega)
 have R58:=hideM r58
 clear r58
 have r91:decide (91<=op/\op<=102)=false:=decide_eq_false (by omega)
 have R91:=hideM r91
 clear r91
 have r139:decide (139<=op/\op<=166)=false:=decide_eq_false (by omega)
 have R139:=hideM r139
 clear r139
 have r168:decide (168<=op/\op<=171)=false:=decide_eq_false (by omega)
 have R168:=hideM r168
 clear r168
 have r174:decide (174<=op/\op<=191)=false:=decide_eq_false (by omega)
 have R174:=hideM r174
 clear r174
 clear h
 go_enter Tryd.func19,Tryd.ntmps19
 go_wp2_with fail
 refine (refSig _ _).mono ?_
 rintro e u ⟨rfl,rfl⟩
 generalize Nums.sig op=t at *
 go_wp2_with fail
 refine (refIn _ _ _ _).mono ?_
 rintro e u ⟨rfl,rfl⟩
 rw [R32.out]
 go_wp2_with fail
 refine (refIn _ _ _ _).mono ?_
 rintro e u ⟨rfl,rfl⟩
 rw [R44.out]
 go_wp2_with fail
 refine (refIn _ _ _ _).mono ?_
 rintro e u ⟨rfl,rfl⟩
 rw [R58.out]
 go_wp2_with fail
 refine (refIn _ _ _ _).mono ?_
 rintro e u ⟨rfl,rfl⟩
 rw [R91.out]
 go_wp2_with fail
 refine (refIn _ _ _ _).mono ?_
 rintro e u ⟨rfl,rfl⟩
 rw [R139.out]
 go_wp2_with fail
 refine (refIn _ _ _ _).mono ?_
 rintro e u ⟨rfl,rfl⟩
 rw [R168.out]
 go_wp2_with fail
 refine (refIn _ _ _ _).mono ?_
 rintro e u ⟨rfl,rfl⟩
 rw [R174.out]
 go_wp2
 go_ret
 exact ⟨rfl,rfl⟩
end Go.Proofs.YthfapccopngfhaaDoor

