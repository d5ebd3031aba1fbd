/- Texts that the claim needs. -/
import Derived.Test.YtgbbmdknbflilaaDoorQDcu6
import Derived.Test.YtgbbmdknbflilaaDoorQDcu7
namespace Go.Proofs.YtgbbmdknbflilaaDoor
open Go.RowKit Rep
set_option linter.unusedVariables false
set_option maxHeartbeats 1000000 in
theorem pForm28 {I:World->Prop} (C:ReckC I) (op:Int) (w:World) (h:64<=op/\op<=64) (hI:I w):Calls Tryd.prog 58 #[.int .i64 op] w fun e w'=>e=.returned (.int .i64 1)/\Below w.heap.size w w':=by
 have hp:rkn op=false:=decide_eq_false (by omega)
 have hfl:flt op=false:=decide_eq_false (by omega)
 have HI:=hideM hI
 clear hI
 obtain rfl:op=64:=by omega
 clear h
 go_enter Tryd.func58,Tryd.ntmps58
 go_wp2
 go_ret
 exact ⟨rfl,Below.refl _ _⟩
set_option maxHeartbeats 1000000 in
theorem pForm29 {I:World->Prop} (C:ReckC I) (op:Int) (w:World) (h:65<=op/\op<=65) (hI:I w):Calls Tryd.prog 58 #[.int .i64 op] w fun e w'=>e=.returned (.int .i64 9)/\Below w.heap.size w w':=by
 have hp:rkn op=false:=decide_eq_false (by omega)
 have hfl:flt op=false:=decide_eq_false (by omega)
 have HI:=hideM hI
 clear hI
 obtain rfl:op=65:=by omega
 clear h
 go_enter Tryd.func58,Tryd.ntmps58
 go_wp2_with fail
 refine (C.reckons _ _ HI.out).mono ?_
 rintro e u ⟨rfl,hb⟩
 have HB:=hideM hb
 clear hb
 rw [hp]
 go_wp2
 go_ret
 exact ⟨rfl,HB.out⟩
set_option maxHeartbeats 1000000 in
theorem pForm30 {I:World->Prop} (C:ReckC I) (op:Int) (w:World) (h:66<=op/\op<=66) (hI:I w):Calls Tryd.prog 58 #[.int .i64 op] w fun e w'=>e=.returned (.int .i64 9)/\Below w.heap.size w w':=by
 have hp:rkn op=false:=decide_eq_false (by omega)
 have hfl:flt op=false:=decide_eq_false (by omega)
 have HI:=hideM hI
 clear hI
 obtain rfl:op=66:=by omega
 clear h
 go_enter Tryd.func58,Tryd.ntmps58
 go_wp2_with fail
 refine (C.reckons _ _ HI.out).mono ?_
 rintro e u ⟨rfl,hb⟩
 have HB:=hideM hb
 clear hb
 rw [hp]
 go_wp2
 go_ret
 exact ⟨rfl,HB.out⟩
set_option maxHeartbeats 1000000 in
theorem pForm31 {I:World->Prop} (C:ReckC I) (op:Int) (w:World) (h:67<=op/\op<=67) (hI:I w):Calls Tryd.prog 58 #[.int .i64 op] w fun e w'=>e=.returned (.int .i64 10)/\Below w.heap.size w w':=by
 have hp:rkn op=false:=decide_eq_false (by omega)
 have hfl:flt op=true:=decide_eq_true (by omega)
 have HI:=hideM hI
 clear hI
 obtain rfl:op=67:=by omega
 clear h
 go_enter Tryd.func58,Tryd.ntmps58
 go_wp2_with fail
 refine (C.reckons _ _ HI.out).mono ?_
 rintro e u ⟨rfl,hb⟩
 have HB:=hideM hb
 clear hb
 rw [hp]
 go_wp2_with fail
 refine (pfloats _ _).mono ?_
 rintro e u ⟨rfl,rfl⟩
 rw [hfl]
 go_wp2
 go_ret
 exact ⟨rfl,HB.out⟩
set_option maxHeartbeats 1000000 in
theorem pForm32 {I:World->Prop} (C:ReckC I) (op:Int) (w:World) (h:68<=op/\op<=68) (hI:I w):Calls Tryd.prog 58 #[.int .i64 op] w fun e w'=>e=.returned (.int .i64 10)/\Below w.heap.size w w':=by
 have hp:rkn op=false:=decide_eq_false (by omega)
 have hfl:flt op=true:=decide_eq_true (by omega)
 have HI:=hideM hI
 clear hI
 obtain rfl:op=68:=by omega
 clear h
 go_enter Tryd.func58,Tryd.ntmps58
 go_wp2_with fail
 refine (C.reckons _ _ HI.out).mono ?_
 rintro e u ⟨rfl,hb⟩
 have HB:=hideM hb
 clear hb
 rw [hp]
 go_wp2_with fail
 refine (pfloats _ _).mono ?_
 rintro e u ⟨rfl,rfl⟩
 rw [hfl]
 go_wp2
 go_ret
 exact ⟨rfl,HB.out⟩
set_option maxHeartbeats 1000000 in
theorem pForm33 {I:World->Prop} (C:ReckC I) (op:Int) (w:World) (h:69<=op/\op<=90) (hI:I w):Calls Tryd.prog 58 #[.int .i64 op] w fun e w'=>e=.returned (.int .i64 1)/\Below w.heap.size w w':=by
 have hp:rkn op=true:=decide_eq_true (by omega)
 have hfl:flt op=false:=decide_eq_false (by omega)
 have HI:=hideM hI
 clear hI
 have q0:(op == 0)=false:=by rw [beq_eq_false_iff_ne];omega
 have q1:(op == 1)=false:=by rw [beq_eq_false_iff_ne];omega
 have q15:(op == 15)=false:=by rw [beq_eq_false_iff_ne];omega
 have q26:(op == 26)=false:=by rw [beq_eq_false_iff_ne];omega
 have q27:(op == 27)=false:=by rw [beq_eq_false_iff_ne];omega
 have q63:(op == 63)=false:=by rw [beq_eq_false_iff_ne];omega
 have q64:(op == 64)=false:=by rw [beq_eq_false_iff_ne];omega
 have q2:(op == 2)=false:=by rw [beq_eq_false_iff_ne];omega
 have q3:(op == 3)=false:=by rw [beq_eq_false_iff_ne];omega
 have q4:(op == 4)=false:=by rw [beq_eq_false_iff_ne];omega
 have q12:(op == 12)=false:=by rw [beq_eq_false_iff_ne];omega
 have q13:(op == 13)=false:=by rw [beq_eq_false_iff_ne];omega
 have q14:(op == 14)=false:=by rw [beq_eq_false_iff_ne];omega
 have q16:(op == 16)=false:=by rw [beq_eq_false_iff_ne];omega
 have q17:(op == 17)=false:=by rw [beq_eq_false_iff_ne];omega
 have q40:(op == 40)=false:=by rw [beq_eq_false_iff_ne];omega
 have q41:(op == 41)=false:=by rw [beq_eq_false_iff_ne];omega
 have q65:(op == 65)=false:=by rw [beq_eq_false_iff_ne];omega
 have q66:(op == 66)=false:=by rw [beq_eq_false_iff_ne];omega
 have a32:decide ((32:Int)<=op)=true:=decide_eq_true (by omega)
 have b36:decide (op<=(36:Int))=false:=decide_eq_false (by omega)
 have a44:decide ((44:Int)<=op)=true:=decide_eq_true (by omega)
 have b55:decide (op<=(55:Int))=false:=decide_eq_false (by omega)
 have a58:decide ((58:Int)<=op)=true:=decide_eq_true (by omega)
 have b62:decide (op<=(62:Int))=false:=decide_eq_false (by omega)
 clear h
 go_enter Tryd.func58,Tryd.ntmps58
 go_wp2_with fail
 refine (C.reckons _ _ HI.out).mono ?_
 rintro e u ⟨rfl,hb⟩
 have HB:=hideM hb
 clear hb
 rw [hp]
 go_wp2
 go_ret
 exact ⟨rfl,HB.out⟩
set_option maxHeartbeats 1000000 in
theorem pForm34 {I:World->Prop} (C:ReckC I) (op:Int) (w:World) (h:91<=op/\op<=102) (hI:I w):Calls Tryd.prog 58 #[.int .i64 op] w fun e w'=>e=.returned (.int .i64 10)/\Below w.heap.size w w':=by
 have hp:rkn op=false:=decide_eq_false (by omega)
 have hfl:flt op=true:=decide_eq_true (by omega)
 have HI:=hideM hI
 clear hI
 have q0:(op == 0)=false:=by rw [beq_eq_false_iff_ne];omega
 have q1:(op == 1)=false:=by rw [beq_eq_false_iff_ne];omega
 have q15:(op == 15)=false:=by rw [beq_eq_false_iff_ne];omega
 have q26:(op == 26)=false:=by rw [beq_eq_false_iff_ne];omega
 have q27:(op == 27)=false:=by rw [beq_eq_false_iff_ne];omega
 have q63:(op == 63)=false:=by rw [beq_eq_false_iff_ne];omega
 have q64:(op == 64)=false:=by rw [beq_eq_false_iff_ne];omega
 have q2:(op == 2)=false:=by rw [beq_eq_false_iff_ne];omega
 have q3:(op == 3)=false:=by rw [beq_eq_false_iff_ne];omega
 have q4:(op == 4)=false:=by rw [beq_eq_false_iff_ne];omega
 have q12:(op == 12)=false:=by rw [beq_eq_false_iff_ne];omega
 have q13:(op == 13)=false:=by rw [beq_eq_false_iff_ne];omega
 have q14:(op == 14)=false:=by rw [beq_eq_false_iff_ne];omega
 have q16:(op == 16)=false:=by rw [beq_eq_false_iff_ne];omega
 have q17:(op == 17)=false:=by rw [beq_eq_false_iff_ne];omega
 have q40:(op == 40)=false:=by rw [beq_eq_false_iff_ne];omega
 have q41:(op == 41)=false:=by rw [beq_eq_false_iff_ne];omega
 have q65:(op == 65)=false:=by rw [beq_eq_false_iff_ne];omega
 have q66:(op == 66)=false:=by rw [beq_eq_false_iff_ne];omega
 have a32:decide ((32:Int)<=op)=true:=decide_eq_true (by omega)
 have b36:decide (op<=(36:Int))=false:=decide_eq_false (by omega)
 have a44:decide ((44:Int)<=op)=true:=decide_eq_true (by omega)
 have b55:decide (op<=(55:Int))=false:=decide_eq_false (by omega)
 have a58:decide ((58:Int)<=op)=true:=decide_eq_true (by omega)
 have b62:decide (op<=(62:Int))=false:=decide_eq_false (by omega)
 clear h
 go_enter Tryd.func58,Tryd.ntmps58
 go_wp2_with fail
 refine (C.reckons _ _ HI.out).mono ?_
 rintro e u ⟨rfl,hb⟩
 have HB:=hideM hb
 clear hb
 rw [hp]
 go_wp2_with fail
 refine (pfloats _ _).mono ?_
 rintro e u ⟨rfl,rfl⟩
 rw [hfl]
 go_wp2
 go_ret
 exact ⟨rfl,HB.out⟩
set_option maxHeartbeats 1000000 in
theorem pForm35 {I:World->Prop} (C:ReckC I) (op:Int) (w:World) (h:103<=op/\op<=138) (hI:I w):Calls Tryd.prog 58 #[.int .i64 op] w fun e w'=>e=.returned (.int .i64 1)/\Below w.heap.size w w':=by
 have hp:rkn op=true:=decide_eq_true (by omega)
 have hfl:flt op=false:=decide_eq_false (by omega)
 have HI:=hideM hI
 clear hI
 have q0:(op == 0)=false:=by rw [beq_eq_false_iff_ne];omega
 have q1:(op == 1)=false:=by rw [beq_eq_false_iff_ne];omega
 have q15:(op == 15)=false:=by rw [beq_eq_false_iff_ne];omega
 have q26:(op == 26)=false:=by rw [beq_eq_false_iff_ne];omega
 have q27:(op == 27)=false:=by rw [beq_eq_false_iff_ne];omega
 have q63:(op == 63)=false:=by rw [beq_eq_false_iff_ne];omega
 have q64:(op == 64)=false:=by rw [beq_eq_false_iff_ne];omega
 have q2:(op == 2)=false:=by rw [beq_eq_false_iff_ne];omega
 have q3:(op == 3)=false:=by rw [beq_eq_false_iff_ne];omega
 have q4:(op == 4)=false:=by rw [beq_eq_false_iff_ne];omega
 have q12:(op == 12)=false:=by rw [beq_eq_false_iff_ne];omega
 have q13:(op == 13)=false:=by rw [beq_eq_false_iff_ne];omega
 have q14:(op == 14)=false:=by rw [beq_eq_false_iff_ne];omega
 have q16:(op == 16)=false:=by rw [beq_eq_false_iff_ne];omega
 have q17:(op == 17)=false:=by rw [beq_eq_false_iff_ne];omega
 have q40:(op == 40)=false:=by rw [beq_eq_false_iff_ne];omega
 have q41:(op == 41)=false:=by rw [beq_eq_false_iff_ne];omega
 have q65:(op == 65)=false:=by rw [beq_eq_false_iff_ne];omega
 have q66:(op == 66)=false:=by rw [beq_eq_false_iff_ne];omega
 have a32:decide ((32:Int)<=op)=true:=decide_eq_true (by omega)
 have b36:decide (op<=(36:Int))=false:=decide_eq_false (by omega)
 have a44:decide ((44:Int)<=op)=true:=decide_eq_true (by omega)
 have b55:decide (op<=(55:Int))=false:=decide_eq_false (by omega)
 have a58:decide ((58:Int)<=op)=true:=decide_eq_true (by omega)
 have b62:decide (op<=(62:Int))=false:=decide_eq_false (by omega)
 clear h
 go_enter Tryd.func58,Tryd.ntmps58
 go_wp2_with fail
 refine (C.reckons _ _ HI.out).mono ?_
 rintro e u ⟨rfl,hb⟩
 have HB:=hideM hb
 clear hb
 rw [hp]
 go_wp2
 go_ret
 exact ⟨rfl,HB.out⟩
set_option maxHeartbeats 1000000 in
theorem pForm36 {I:World->Prop} (C:ReckC I) (op:Int) (w:World) (h:139<=op/\op<=166) (hI:I w):Calls Tryd.prog 58 #[.int .i64 op] w fun e w'=>e=.returned (.int .i64 10)/\Below w.heap.size w w':=by
 have hp:rkn op=false:=decide_eq_false (by omega)
 have hfl:flt op=true:=decide_eq_true (by omega)
 have HI:=hideM hI
 clear hI
 have q0:(op == 0)=false:=by rw [beq_eq_false_iff_ne];omega
 have q1:(op == 1)=false:=by rw [beq_eq_false_iff_ne];omega
 have q15:(op == 15)=false:=by rw [beq_eq_false_iff_ne];omega
 have q26:(op == 26)=false:=by rw [beq_eq_false_iff_ne];omega
 have q27:(op == 27)=false:=by rw [beq_eq_false_iff_ne];omega
 have q63:(op == 63)=false:=by rw [beq_eq_false_iff_ne];omega
 have q64:(op == 64)=false:=by rw [beq_eq_false_iff_ne];omega
 have q2:(op == 2)=false:=by rw [beq_eq_false_iff_ne];omega
 have q3:(op == 3)=false:=by rw [beq_eq_false_iff_ne];omega
 have q4:(op == 4)=false:=by rw [beq_eq_false_iff_ne];omega
 have q12:(op == 12)=false:=by rw [beq_eq_false_iff_ne];omega
 have q13:(op == 13)=false:=by rw [beq_eq_false_iff_ne];omega
 have q14:(op == 14)=false:=by rw [beq_eq_false_iff_ne];omega
 have q16:(op == 16)=false:=by rw [beq_eq_false_iff_ne];omega
 have q17:(op == 17)=false:=by rw [beq_eq_false_iff_ne];omega
 have q40:(op == 40)=false:=by rw [beq_eq_false_iff_ne];omega
 have q41:(op == 41)=false:=by rw [beq_eq_false_iff_ne];omega
 have q65:(op == 65)=false:=by rw [beq_eq_false_iff_ne];omega
 have q66:(op == 66)=false:=by rw [beq_eq_false_iff_ne];omega
 have a32:decide ((32:Int)<=op)=true:=decide_eq_true (by omega)
 have b36:decide (op<=(36:Int))=false:=decide_eq_false (by omega)
 have a44:decide ((44:Int)<=op)=true:=decide_eq_true (by omega)
 have b55:decide (op<=(55:Int))=false:=decide_eq_false (by omega)
 have a58:decide ((58:Int)<=op)=true:=decide_eq_true (by omega)
 have b62:decide (op<=(62:Int))=false:=decide_eq_false (by omega)
 clear h
 go_enter Tryd.func58,Tryd.ntmps58
 go_wp2_with fail
 refine (C.reckons _ _ HI.out).mono ?_
 rintro e u ⟨rfl,hb⟩
 have HB:=hideM hb
 clear hb
 rw [hp]
 go_wp2_with fail
 refine (pfloats _ _).mono ?_
 rintro e u ⟨rfl,rfl⟩
 rw [hfl]
 go_wp2
 go_ret
 exact ⟨rfl,HB.out⟩
set_option maxHeartbeats 1000000 in
theorem pForm37 {I:World->Prop} (C:ReckC I) (op:Int) (w:World) (h:167<=op/\op<=167) (hI:I w):Calls Tryd.prog 58 #[.int .i64 op] w fun e w'=>e=.returned (.int .i64 1)/\Below w.heap.size w w':=by
 have hp:rkn op=true:=decide_eq_true (by omega)
 have hfl:flt op=false:=decide_eq_false (by omega)
 have HI:=hideM hI
 clear hI
 obtain rfl:op=167:=by omega
 clear h
 go_enter Tryd.func58,Tryd.ntmps58
 go_wp2_with fail
 refine (C.reckons _ _ HI.out).mono ?_
 rintro e u ⟨rfl,hb⟩
 have HB:=hideM hb
 clear hb
 rw [hp]
 go_wp2
 go_ret
 exact ⟨rfl,HB.out⟩
set_option maxHeartbeats 1000000 in
theorem pForm38 {I:World->Prop} (C:ReckC I) (op:Int) (w:World) (h:168<=op/\op<=171) (hI:I w):Calls Tryd.prog 58 #[.int .i64 op] w fun e w'=>e=.returned (.int .i64 10)/\Below w.heap.size w w':=by
 have hp:rkn op=false:=decide_eq_false (by omega)
 have hfl:flt op=true:=decide_eq_true (by omega)
 have HI:=hideM hI
 clear hI
 have q0:(op == 0)=false:=by rw [beq_eq_false_iff_ne];omega
 have q1:(op == 1)=false:=by rw [beq_eq_false_iff_ne];omega
 have q15:(op == 15)=false:=by rw [beq_eq_false_iff_ne];omega
 have q26:(op == 26)=false:=by rw [beq_eq_false_iff_ne];omega
 have q27:(op == 27)=false:=by rw [beq_eq_false_iff_ne];omega
 have q63:(op == 63)=false:=by rw [beq_eq_false_iff_ne];omega
 have q64:(op == 64)=false:=by rw [beq_eq_false_iff_ne];omega
 have q2:(op == 2)=false:=by rw [beq_eq_false_iff_ne];omega
 have q3:(op == 3)=false:=by rw [beq_eq_false_iff_ne];omega
 have q4:(op == 4)=false:=by rw [beq_eq_false_iff_ne];omega
 have q12:(op == 12)=false:=by rw [beq_eq_false_iff_ne];omega
 have q13:(op == 13)=false:=by rw [beq_eq_false_iff_ne];omega
 have q14:(op == 14)=false:=by rw [beq_eq_false_iff_ne];omega
 have q16:(op == 16)=false:=by rw [beq_eq_false_iff_ne];omega
 have q17:(op == 17)=false:=by rw [beq_eq_false_iff_ne];omega
 have q40:(op == 40)=false:=by rw [beq_eq_false_iff_ne];omega
 have q41:(op == 41)=false:=by rw [beq_eq_false_iff_ne];omega
 have q65:(op == 65)=false:=by rw [beq_eq_false_iff_ne];omega
 have q66:(op == 66)=false:=by rw [beq_eq_false_iff_ne];omega
 have a32:decide ((32:Int)<=op)=true:=decide_eq_true (by omega)
 have b36:decide (op<=(36:Int))=false:=decide_eq_false (by omega)
 have a44:decide ((44:Int)<=op)=true:=decide_eq_true (by omega)
 have b55:decide (op<=(55:Int))=false:=decide_eq_false (by omega)
 have a58:decide ((58:Int)<=op)=true:=decide_eq_true (by omega)
 have b62:decide (op<=(62:Int))=false:=decide_eq_false (by omega)
 clear h
 go_enter Tryd.func58,Tryd.ntmps58
 go_wp2_with fail
 refine (C.reckons _ _ HI.out).mono ?_
 rintro e u ⟨rfl,hb⟩
 have HB:=hideM hb
 clear hb
 rw [hp]
 go_wp2_with fail
 refine (pfloats _ _).mono ?_
 rintro e u ⟨rfl,rfl⟩
 rw [hfl]
 go_wp2
 go_ret
 exact ⟨rfl,HB.out⟩
set_option maxHeartbeats 1000000 in
theorem pForm39 {I:World->Prop} (C:ReckC I) (op:Int) (w:World) (h:172<=op/\op<=173) (hI:I w):Calls Tryd.prog 58 #[.int .i64 op] w fun e w'=>e=.returned (.int .i64 1)/\Below w.heap.size w w':=by
 have hp:rkn op=true:=decide_eq_true (by omega)
 have hfl:flt op=false:=decide_eq_false (by omega)
 have HI:=hideM hI
 clear hI
 have q0:(op == 0)=false:=by rw [beq_eq_false_iff_ne];omega
 have q1:(op == 1)=false:=by rw [beq_eq_false_iff_ne];omega
 have q15:(op == 15)=false:=by rw [beq_eq_false_iff_ne];omega
 have q26:(op == 26)=false:=by rw [beq_eq_false_iff_ne];omega
 have q27:(op == 27)=false:=by rw [beq_eq_false_iff_ne];omega
 have q63:(op == 63)=false:=by rw [beq_eq_false_iff_ne];omega
 have q64:(op == 64)=false:=by rw [beq_eq_false_iff_ne];omega
 have q2:(op == 2)=false:=by rw [beq_eq_false_iff_ne];omega
 have q3:(op == 3)=false:=by rw [beq_eq_false_iff_ne];omega
 have q4:(op == 4)=false:=by rw [beq_eq_false_iff_ne];omega
 have q12:(op == 12)=false:=by rw [beq_eq_false_iff_ne];omega
 have q13:(op == 13)=false:=by rw [beq_eq_false_iff_ne];omega
 have q14:(op == 14)=false:=by rw [beq_eq_false_iff_ne];omega
 have q16:(op == 16)=false:=by rw [beq_eq_false_iff_ne];omega
 have q17:(op == 17)=false:=by rw [beq_eq_false_iff_ne];omega
 have q40:(op == 40)=false:=by rw [beq_eq_false_iff_ne];omega
 have q41:(op == 41)=false:=by rw [beq_eq_false_iff_ne];omega
 have q65:(op == 65)=false:=by rw [beq_eq_false_iff_ne];omega
 have q66:(op == 66)=false:=by rw [beq_eq_false_iff_ne];omega
 have a32:decide ((32:Int)<=op)=true:=decide_eq_true (by omega)
 have b36:decide (op<=(36:Int))=false:=decide_eq_false (by omega)
 have a44:decide ((44:Int)<=op)=true:=decide_eq_true (by omega)
 have b55:decide (op<=(55:Int))=false:=decide_eq_false (by omega)
 have a58:decide ((58:Int)<=op)=true:=decide_eq_true (by omega)
 have b62:decide (op<=(62:Int))=false:=decide_eq_false (by omega)
 clear h
 go_enter Tryd.func58,Tryd.ntmps58
 go_wp2_with fail
 refine (C.reckons _ _ HI.out).mono ?_
 rintro e u ⟨rfl,hb⟩
 have HB:=hideM hb
 clear hb
 rw [hp]
 go_wp2
 go_ret
 exact ⟨rfl,HB.out⟩
set_option maxHeartbeats 1000000 in
theorem pForm40 {I:World->Prop} (C:ReckC I) (op:Int) (w:World) (h:174<=op/\op<=191) (hI:I w):Calls Tryd.prog 58 #[.int .i64 op] w fun e w'=>e=.returned (.int .i64 10)/\Below w.heap.size w w':=by
 have hp:rkn op=false:=decide_eq_false (by omega)
 have hfl:flt op=true:=decide_eq_true (by omega)
 have HI:=hideM hI
 clear hI
 have q0:(op == 0)=false:=by rw [beq_eq_false_iff_ne];omega
 have q1:(op == 1)=false:=by rw [beq_eq_false_iff_ne];omega
 have q15:(op == 15)=false:=by rw [beq_eq_false_iff_ne];omega
 have q26:(op == 26)=false:=by rw [beq_eq_false_iff_ne];omega
 have q27:(op == 27)=false:=by rw [beq_eq_false_iff_ne];omega
 have q63:(op == 63)=false:=by rw [beq_eq_false_iff_ne];omega
 have q64:(op == 64)=false:=by rw [beq_eq_false_iff_ne];omega
 have q2:(op == 2)=false:=by rw [beq_eq_false_iff_ne];omega
 have q3:(op == 3)=false:=by rw [beq_eq_false_iff_ne];omega
 have q4:(op == 4)=false:=by rw [beq_eq_false_iff_ne];omega
 have q12:(op == 12)=false:=by rw [beq_eq_false_iff_ne];omega
 have q13:(op == 13)=false:=by rw [beq_eq_false_iff_ne];omega
 have q14:(op == 14)=false:=by rw [beq_eq_false_iff_ne];omega
 have q16:(op == 16)=false:=by rw [beq_eq_false_iff_ne];omega
 have q17:(op == 17)=false:=by rw [beq_eq_false_iff_ne];omega
 have q40:(op == 40)=false:=by rw [beq_eq_false_iff_ne];omega
 have q41:(op == 41)=false:=by rw [beq_eq_false_iff_ne];omega
 have q65:(op == 65)=false:=by rw [beq_eq_false_iff_ne];omega
 have q66:(op == 66)=false:=by rw [beq_eq_false_iff_ne];omega
 have a32:decide ((32:Int)<=op)=true:=decide_eq_true (by omega)
 have b36:decide (op<=(36:Int))=false:=decide_eq_false (by omega)
 have a44:decide ((44:Int)<=op)=true:=decide_eq_true (by omega)
 have b55:decide (op<=(55:Int))=false:=decide_eq_false (by omega)
 have a58:decide ((58:Int)<=op)=true:=decide_eq_true (by omega)
 have b62:decide (op<=(62:Int))=false:=decide_eq_false (by omega)
 clear h
 go_enter Tryd.func58,Tryd.ntmps58
 go_wp2_with fail
 refine (C.reckons _ _ HI.out).mono ?_
 rintro e u ⟨rfl,hb⟩
 have HB:=hideM hb
 clear hb
 rw [hp]
 go_wp2_with fail
 refine (pfloats _ _).mono ?_
 rintro e u ⟨rfl,rfl⟩
 rw [hfl]
 go_wp2
 go_ret
 exact ⟨rfl,HB.out⟩
set_option maxHeartbeats 1000000 in
theorem pForm41 {I:World->Prop} (C:ReckC I) (op:Int) (w:World) (h:192<=op) (hI:I w):Calls Tryd.prog 58 #[.int .i64 op] w fun e w'=>e=.returned (.int .i64 0)/\Below w.heap.size w w':=by
 have hp:rkn op=false:=decide_eq_false (by omega)
 have hfl:flt op=false:=decide_eq_false (by omega)
 have HI:=hideM hI
 clear hI
 have q0:(op == 0)=false:=by rw [beq_eq_false_iff_ne];omega
 have q1:(op == 1)=false:=by rw [beq_eq_false_iff_ne];omega
 have q15:(op == 15)=false:=by rw [beq_eq_false_iff_ne];omega
 have q26:(op == 26)=false:=by rw [beq_eq_false_iff_ne];omega
 have q27:(op == 27)=false:=by rw [beq_eq_false_iff_ne];omega
 have q63:(op == 63)=false:=by rw [beq_eq_false_iff_ne];omega
 have q64:(op == 64)=false:=by rw [beq_eq_false_iff_ne];omega
 have q2:(op == 2)=false:=by rw [beq_eq_false_iff_ne];omega
 have q3:(op == 3)=false:=by rw [beq_eq_false_iff_ne];omega
 have q4:(op == 4)=false:=by rw [beq_eq_false_iff_ne];omega
 have q12:(op == 12)=false:=by rw [beq_eq_false_iff_ne];omega
 have q13:(op == 13)=false:=by rw [beq_eq_false_iff_ne];omega
 have q14:(op == 14)=false:=by rw [beq_eq_false_iff_ne];omega
 have q16:(op == 16)=false:=by rw [beq_eq_false_iff_ne];omega
 have q17:(op == 17)=false:=by rw [beq_eq_false_iff_ne];omega
 have q40:(op == 40)=false:=by rw [beq_eq_false_iff_ne];omega
 have q41:(op == 41)=false:=by rw [beq_eq_false_iff_ne];omega
 have q65:(op == 65)=false:=by rw [beq_eq_false_iff_ne];omega
 have q66:(op == 66)=false:=by rw [beq_eq_false_iff_ne];omega
 have a32:decide ((32:Int)<=op)=true:=decide_eq_true (by omega)
 have b36:decide (op<=(36:Int))=false:=decide_eq_false (by omega)
 have a44:decide ((44:Int)<=op)=true:=decide_eq_true (by omega)
 have b55:decide (op<=(55:Int))=false:=decide_eq_false (by omega)
 have a58:decide ((58:Int)<=op)=true:=decide_eq_true (by omega)
 have b62:decide (op<=(62:Int))=false:=decide_eq_false (by omega)
 clear h
 go_enter Tryd.func58,Tryd.ntmps58
 go_wp2_with fail
 refine (C.reckons _ _ HI.out).mono ?_
 rintro e u ⟨rfl,hb⟩
 have HB:=hideM hb
 clear hb
 rw [hp]
 go_wp2_with fail
 refine (pfloats _ _).mono ?_
 rintro e u ⟨rfl,rfl⟩
 rw [hfl]
 go_wp2
 go_ret
 exact ⟨rfl,HB.out⟩
end Go.Proofs.YtgbbmdknbflilaaDoor

namespace Go.Proofs.YtgbbmdknbflilaaDoor
open Go.RowKit Rep
set_option linter.unusedVariables false
theorem pForm {I:World->Prop} (C:ReckC I) (op:Int) (w:World) (hI:I w):Calls Tryd.prog 58 #[.int .i64 op] w fun e w'=>e=.returned (.int .i64 (form op))/\Below w.heap.size w w':=by
 by_cases c0:op<=-1
 ·have e:form op=0:=by
   unfold form
   repeat first|rw [if_neg (by omega)]|rw [if_pos (by omega)]
  rw [e]
  exact pForm0 C op w (by omega) hI
 by_cases c1:op<=0
 ·have e:form op=1:=by
   unfold form
   repeat first|rw [if_neg (by omega)]|rw [if_pos (by omega)]
  rw [e]
  exact pForm1 C op w (by omega) hI
 by_cases c2:op<=1
 ·have e:form op=1:=by
   unfold form
   repeat first|rw [if_neg (by omega)]|rw [if_pos (by omega)]
  rw [e]
  exact pForm2 C op w (by omega) hI
 by_cases c3:op<=2
 ·have e:form op=2:=by
   unfold form
   repeat first|rw [if_neg (by omega)]|rw [if_pos (by omega)]
  rw [e]
  exact pForm3 C op w (by omega) hI
 by_cases c4:op<=3
 ·have e:form op=2:=by
   unfold form
   repeat first|rw [if_neg (by omega)]|rw [if_pos (by omega)]
  rw [e]
  exact pForm4 C op w (by omega) hI
 by_cases c5:op<=4
 ·have e:form op=3:=by
   unfold form
   repeat first|rw [if_neg (by omega)]|rw [if_pos (by omega)]
  rw [e]
  exact pForm5 C op w (by omega) hI
 by_cases c6:op<=11
 ·have e:form op=0:=by
   unfold form
   repeat first|rw [if_neg (by omega)]|rw [if_pos (by omega)]
  rw [e]
  exact pForm6 C op w (by omega) hI
 by_cases c7:op<=12
 ·have e:form op=4:=by
   unfold form
   repeat first|rw [if_neg (by omega)]|rw [if_pos (by omega)]
  rw [e]
  exact pForm7 C op w (by omega) hI
 by_cases c8:op<=13
 ·have e:form op=4:=by
   unfold form
   repeat first|rw [if_neg (by omega)]|rw [if_pos (by omega)]
  rw [e]
  exact pForm8 C op w (by omega) hI
 by_cases c9:op<=14
 ·have e:form op=5:=by
   unfold form
   repeat first|rw [if_neg (by omega)]|rw [if_pos (by omega)]
  rw [e]
  exact pForm9 C op w (by omega) hI
 by_cases c10:op<=15
 ·have e:form op=1:=by
   unfold form
   repeat first|rw [if_neg (by omega)]|rw [if_pos (by omega)]
  rw [e]
  exact pForm10 C op w (by omega) hI
 by_cases c11:op<=16
 ·have e:form op=6:=by
   unfold form
   repeat first|rw [if_neg (by omega)]|rw [if_pos (by omega)]
  rw [e]
  exact pForm11 C op w (by omega) hI
 by_cases c12:op<=17
 ·have e:form op=7:=by
   unfold form
   repeat first|rw [if_neg (by omega)]|rw [if_pos (by omega)]
  rw [e]
  exact pForm12 C op w (by omega) hI
 by_cases c13:op<=25
 ·have e:form op=0:=by
   unfold form
   repeat first|rw [if_neg (by omega)]|rw [if_pos (by omega)]
  rw [e]
  exact pForm13 C op w (by omega) hI
 by_cases c14:op<=26
 ·have e:form op=1:=by
   unfold form
   repeat first|rw [if_neg (by omega)]|rw [if_pos (by omega)]
  rw [e]
  exact pForm14 C op w (by omega) hI
 by_cases c15:op<=27
 ·have e:form op=1:=by
   unfold form
   repeat first|rw [if_neg (by omega)]|rw [if_pos (by omega)]
  rw [e]
  exact pForm15 C op w (by omega) hI
 by_cases c16:op<=31
 ·have e:form op=0:=by
   unfold form
   repeat first|rw [if_neg (by omega)]|rw [if_pos (by omega)]
  rw [e]
  exact pForm16 C op w (by omega) hI
 by_cases c17:op<=36
 ·have e:form op=6:=by
   unfold form
   repeat first|rw [if_neg (by omega)]|rw [if_pos (by omega)]
  rw [e]
  exact pForm17 C op w (by omega) hI
 by_cases c18:op<=39
 ·have e:form op=0:=by
   unfold form
   repeat first|rw [if_neg (by omega)]|rw [if_pos (by omega)]
  rw [e]
  exact pForm18 C op w (by omega) hI
 by_cases c19:op<=40
 ·have e:form op=8:=by
   unfold form
   repeat first|rw [if_neg (by omega)]|rw [if_pos (by omega)]
  rw [e]
  exact pForm19 C op w (by omega) hI
 by_cases c20:op<=41
 ·have e:form op=8:=by
   unfold form
   repeat first|rw [if_neg (by omega)]|rw [if_pos (by omega)]
  rw [e]
  exact pForm20 C op w (by omega) hI
 by_cases c21:op<=42
 ·have e:form op=10:=by
   unfold form
   repeat first|rw [if_neg (by omega)]|rw [if_pos (by omega)]
  rw [e]
  exact pForm21 C op w (by omega) hI
 by_cases c22:op<=43
 ·have e:form op=10:=by
   unfold form
   repeat first|rw [if_neg (by omega)]|rw [if_pos (by omega)]
  rw [e]
  exact pForm22 C op w (by omega) hI
 by_cases c23:op<=55
 ·have e:form op=8:=by
   unfold form
   repeat first|rw [if_neg (by omega)]|rw [if_pos (by omega)]
  rw [e]
  exact pForm23 C op w (by omega) hI
 by_cases c24:op<=56
 ·have e:form op=10:=by
   unfold form
   repeat first|rw [if_neg (by omega)]|rw [if_pos (by omega)]
  rw [e]
  exact pForm24 C op w (by omega) hI
 by_cases c25:op<=57
 ·have e:form op=10:=by
   unfold form
   repeat first|rw [if_neg (by omega)]|rw [if_pos (by omega)]
  rw [e]
  exact pForm25 C op w (by omega) hI
 by_cases c26:op<=62
 ·have e:form op=8:=by
   unfold form
   repeat first|rw [if_neg (by omega)]|rw [if_pos (by omega)]
  rw [e]
  exact pForm26 C op w (by omega) hI
 by_cases c27:op<=63
 ·have e:form op=1:=by
   unfold form
   repeat first|rw [if_neg (by omega)]|rw [if_pos (by omega)]
  rw [e]
  exact pForm27 C op w (by omega) hI
 by_cases c28:op<=64
 ·have e:form op=1:=by
   unfold form
   repeat first|rw [if_neg (by omega)]|rw [if_pos (by omega)]
  rw [e]
  exact pForm28 C op w (by omega) hI
 by_cases c29:op<=65
 ·have e:form op=9:=by
   unfold form
   repeat first|rw [if_neg (by omega)]|rw [if_pos (by omega)]
  rw [e]
  exact pForm29 C op w (by omega) hI
 by_cases c30:op<=66
 ·have e:form op=9:=by
   unfold form
   repeat first|rw [if_neg (by omega)]|rw [if_pos (by omega)]
  rw [e]
  exact pForm30 C op w (by omega) hI
 by_cases c31:op<=67
 ·have e:form op=10:=by
   unfold form
   repeat first|rw [if_neg (by omega)]|rw [if_pos (by omega)]
  rw [e]
  exact pForm31 C op w (by omega) hI
 by_cases c32:op<=68
 ·have e:form op=10:=by
   unfold form
   repeat first|rw [if_neg (by omega)]|rw [if_pos (by omega)]
  rw [e]
  exact pForm32 C op w (by omega) hI
 by_cases c33:op<=90
 ·have e:form op=1:=by
   unfold form
   repeat first|rw [if_neg (by omega)]|rw [if_pos (by omega)]
  rw [e]
  exact pForm33 C op w (by omega) hI
 by_cases c34:op<=102
 ·have e:form op=10:=by
   unfold form
   repeat first|rw [if_neg (by omega)]|rw [if_pos (by omega)]
  rw [e]
  exact pForm34 C op w (by omega) hI
 by_cases c35:op<=138
 ·have e:form op=1:=by
   unfold form
   repeat first|rw [if_neg (by omega)]|rw [if_pos (by omega)]
  rw [e]
  exact pForm35 C op w (by omega) hI
 by_cases c36:op<=166
 ·have e:form op=10:=by
   unfold form
   repeat first|rw [if_neg (by omega)]|rw [if_pos (by omega)]
  rw [e]
  exact pForm36 C op w (by omega) hI
 by_cases c37:op<=167
 ·have e:form op=1:=by
   unfold form
   repeat first|rw [if_neg (by omega)]|rw [if_pos (by omega)]
  rw [e]
  exact pForm37 C op w (by omega) hI
 by_cases c38:op<=171
 ·have e:form op=10:=by
   unfold form
   repeat first|rw [if_neg (by omega)]|rw [if_pos (by omega)]
  rw [e]
  exact pForm38 C op w (by omega) hI
 by_cases c39:op<=173
 ·have e:form op=1:=by
   unfold form
   repeat first|rw [if_neg (by omega)]|rw [if_pos (by omega)]
  rw [e]
  exact pForm39 C op w (by omega) hI
 by_cases c40:op<=191
 ·have e:form op=10:=by
   unfold form
   repeat first|rw [if_neg (by omega)]|rw [if_pos (by omega)]
  rw [e]
  exact pForm40 C op w (by omega) hI
 have e:form op=0:=by
  unfold form
  repeat rw [if_neg (by omega)]
 rw [e]
 exact pForm41 C op w (by omega) hI
end Go.Proofs.YtgbbmdknbflilaaDoor

