/- Texts that the claim needs. -/
import Derived.Test.YtegboefdolfdgaaGreatDoorQDM2
namespace Go.Proofs.YtegboefdolfdgaaGreatDoor
open Go.RowKit aA
set_option linter.unusedVariables false
set_option maxHeartbeats 1000000
namespace aA
def bC (op:Int):Bool:=decide ((69<=op/\op<=90)\/(103<=op/\op<=138)\/op=167\/op=172\/op=173)
def bz (op:Int):Bool:=decide (op=42\/op=43\/op=56\/op=57\/op=67\/op=68\/(91<=op/\op<=102)\/(139<=op/\op<=166)\/(168<=op/\op<=171)\/(174<=op/\op<=191))
end aA
structure ck (I:World->Prop):Prop where
 keep:∀ {w w':World},Below w.heap.size w w'->I w->I w'
 reckons:∀(op:Int) (w:World),I w->Calls Tryz.prog 100 #[.int .i64 op] w fun e w'=>e=.returned (.bool (bC op))/\Below w.heap.size w w'
theorem Qg (op:Int) (w:World) (h:op<=41):Calls Tryz.prog 101 #[.int .i64 op] w fun e w'=>e=.returned (.bool false)/\w'=w:=by
 have gq:(op == 42)=false:=by rw [beq_eq_false_iff_ne];omega
 have gu:(op == 43)=false:=by rw [beq_eq_false_iff_ne];omega
 have gy:(op == 56)=false:=by rw [beq_eq_false_iff_ne];omega
 have gz:(op == 57)=false:=by rw [beq_eq_false_iff_ne];omega
 have gA:(op == 67)=false:=by rw [beq_eq_false_iff_ne];omega
 have gD:(op == 68)=false:=by rw [beq_eq_false_iff_ne];omega
 have a91:decide ((91:Int)<=op)=false:=decide_eq_false (by omega);have a139:decide ((139:Int)<=op)=false:=decide_eq_false (by omega);have a168:decide ((168:Int)<=op)=false:=decide_eq_false (by omega);have qC:decide ((174:Int)<=op)=false:=decide_eq_false (by omega);clear h;go_enter Tryz.func101,Tryz.ntmps101;go_wp2;go_ret;exact ⟨rfl,rfl⟩
theorem Qh (op:Int) (w:World) (h:42<=op/\op<=42):Calls Tryz.prog 101 #[.int .i64 op] w fun e w'=>e=.returned (.bool true)/\w'=w:=by
 obtain rfl:op=42:=by omega
 clear h;go_enter Tryz.func101,Tryz.ntmps101;go_wp2;go_ret;exact ⟨rfl,rfl⟩
theorem Qi (op:Int) (w:World) (h:43<=op/\op<=43):Calls Tryz.prog 101 #[.int .i64 op] w fun e w'=>e=.returned (.bool true)/\w'=w:=by
 obtain rfl:op=43:=by omega
 clear h;go_enter Tryz.func101,Tryz.ntmps101;go_wp2;go_ret;exact ⟨rfl,rfl⟩
theorem Qj (op:Int) (w:World) (h:44<=op/\op<=55):Calls Tryz.prog 101 #[.int .i64 op] w fun e w'=>e=.returned (.bool false)/\w'=w:=by
 have gq:(op == 42)=false:=by rw [beq_eq_false_iff_ne];omega
 have gu:(op == 43)=false:=by rw [beq_eq_false_iff_ne];omega
 have gy:(op == 56)=false:=by rw [beq_eq_false_iff_ne];omega
 have gz:(op == 57)=false:=by rw [beq_eq_false_iff_ne];omega
 have gA:(op == 67)=false:=by rw [beq_eq_false_iff_ne];omega
 have gD:(op == 68)=false:=by rw [beq_eq_false_iff_ne];omega
 have a91:decide ((91:Int)<=op)=false:=decide_eq_false (by omega);have a139:decide ((139:Int)<=op)=false:=decide_eq_false (by omega);have a168:decide ((168:Int)<=op)=false:=decide_eq_false (by omega);have qC:decide ((174:Int)<=op)=false:=decide_eq_false (by omega);clear h;go_enter Tryz.func101,Tryz.ntmps101;go_wp2;go_ret;exact ⟨rfl,rfl⟩
theorem Qk (op:Int) (w:World) (h:56<=op/\op<=56):Calls Tryz.prog 101 #[.int .i64 op] w fun e w'=>e=.returned (.bool true)/\w'=w:=by
 obtain rfl:op=56:=by omega
 clear h;go_enter Tryz.func101,Tryz.ntmps101;go_wp2;go_ret;exact ⟨rfl,rfl⟩
theorem Ql (op:Int) (w:World) (h:57<=op/\op<=57):Calls Tryz.prog 101 #[.int .i64 op] w fun e w'=>e=.returned (.bool true)/\w'=w:=by
 obtain rfl:op=57:=by omega
 clear h;go_enter Tryz.func101,Tryz.ntmps101;go_wp2;go_ret;exact ⟨rfl,rfl⟩
theorem Qm (op:Int) (w:World) (h:58<=op/\op<=66):Calls Tryz.prog 101 #[.int .i64 op] w fun e w'=>e=.returned (.bool false)/\w'=w:=by
 have gq:(op == 42)=false:=by rw [beq_eq_false_iff_ne];omega
 have gu:(op == 43)=false:=by rw [beq_eq_false_iff_ne];omega
 have gy:(op == 56)=false:=by rw [beq_eq_false_iff_ne];omega
 have gz:(op == 57)=false:=by rw [beq_eq_false_iff_ne];omega
 have gA:(op == 67)=false:=by rw [beq_eq_false_iff_ne];omega
 have gD:(op == 68)=false:=by rw [beq_eq_false_iff_ne];omega
 have a91:decide ((91:Int)<=op)=false:=decide_eq_false (by omega);have a139:decide ((139:Int)<=op)=false:=decide_eq_false (by omega);have a168:decide ((168:Int)<=op)=false:=decide_eq_false (by omega);have qC:decide ((174:Int)<=op)=false:=decide_eq_false (by omega);clear h;go_enter Tryz.func101,Tryz.ntmps101;go_wp2;go_ret;exact ⟨rfl,rfl⟩
theorem Qn (op:Int) (w:World) (h:67<=op/\op<=67):Calls Tryz.prog 101 #[.int .i64 op] w fun e w'=>e=.returned (.bool true)/\w'=w:=by
 obtain rfl:op=67:=by omega
 clear h;go_enter Tryz.func101,Tryz.ntmps101;go_wp2;go_ret;exact ⟨rfl,rfl⟩
theorem Qo (op:Int) (w:World) (h:68<=op/\op<=68):Calls Tryz.prog 101 #[.int .i64 op] w fun e w'=>e=.returned (.bool true)/\w'=w:=by
 obtain rfl:op=68:=by omega
 clear h;go_enter Tryz.func101,Tryz.ntmps101;go_wp2;go_ret;exact ⟨rfl,rfl⟩
theorem Qp (op:Int) (w:World) (h:69<=op/\op<=90):Calls Tryz.prog 101 #[.int .i64 op] w fun e w'=>e=.returned (.bool false)/\w'=w:=by
 have gq:(op == 42)=false:=by rw [beq_eq_false_iff_ne];omega
 have gu:(op == 43)=false:=by rw [beq_eq_false_iff_ne];omega
 have gy:(op == 56)=false:=by rw [beq_eq_false_iff_ne];omega
 have gz:(op == 57)=false:=by rw [beq_eq_false_iff_ne];omega
 have gA:(op == 67)=false:=by rw [beq_eq_false_iff_ne];omega
 have gD:(op == 68)=false:=by rw [beq_eq_false_iff_ne];omega
 have a91:decide ((91:Int)<=op)=false:=decide_eq_false (by omega);have a139:decide ((139:Int)<=op)=false:=decide_eq_false (by omega);have a168:decide ((168:Int)<=op)=false:=decide_eq_false (by omega);have qC:decide ((174:Int)<=op)=false:=decide_eq_false (by omega);clear h;go_enter Tryz.func101,Tryz.ntmps101;go_wp2;go_ret;exact ⟨rfl,rfl⟩
theorem Qq (op:Int) (w:World) (h:91<=op/\op<=102):Calls Tryz.prog 101 #[.int .i64 op] w fun e w'=>e=.returned (.bool true)/\w'=w:=by
 have gq:(op == 42)=false:=by rw [beq_eq_false_iff_ne];omega
 have gu:(op == 43)=false:=by rw [beq_eq_false_iff_ne];omega
 have gy:(op == 56)=false:=by rw [beq_eq_false_iff_ne];omega
 have gz:(op == 57)=false:=by rw [beq_eq_false_iff_ne];omega
 have gA:(op == 67)=false:=by rw [beq_eq_false_iff_ne];omega
 have gD:(op == 68)=false:=by rw [beq_eq_false_iff_ne];omega
 have a91:decide ((91:Int)<=op)=true:=decide_eq_true (by omega);have wM:decide (op<=(102:Int))=true:=decide_eq_true (by omega);have a139:decide ((139:Int)<=op)=false:=decide_eq_false (by omega);have a168:decide ((168:Int)<=op)=false:=decide_eq_false (by omega);have qC:decide ((174:Int)<=op)=false:=decide_eq_false (by omega);clear h;go_enter Tryz.func101,Tryz.ntmps101;go_wp2;go_ret;exact ⟨rfl,rfl⟩
theorem Qr (op:Int) (w:World) (h:103<=op/\op<=138):Calls Tryz.prog 101 #[.int .i64 op] w fun e w'=>e=.returned (.bool false)/\w'=w:=by
 have gq:(op == 42)=false:=by rw [beq_eq_false_iff_ne];omega
 have gu:(op == 43)=false:=by rw [beq_eq_false_iff_ne];omega
 have gy:(op == 56)=false:=by rw [beq_eq_false_iff_ne];omega
 have gz:(op == 57)=false:=by rw [beq_eq_false_iff_ne];omega
 have gA:(op == 67)=false:=by rw [beq_eq_false_iff_ne];omega
 have gD:(op == 68)=false:=by rw [beq_eq_false_iff_ne];omega
 have a91:decide ((91:Int)<=op)=true:=decide_eq_true (by omega);have wM:decide (op<=(102:Int))=false:=decide_eq_false (by omega);have a139:decide ((139:Int)<=op)=false:=decide_eq_false (by omega);have a168:decide ((168:Int)<=op)=false:=decide_eq_false (by omega);have qC:decide ((174:Int)<=op)=false:=decide_eq_false (by omega);clear h;go_enter Tryz.func101,Tryz.ntmps101;go_wp2;go_ret;exact ⟨rfl,rfl⟩
theorem Qs (op:Int) (w:World) (h:139<=op/\op<=166):Calls Tryz.prog 101 #[.int .i64 op] w fun e w'=>e=.returned (.bool true)/\w'=w:=by
 have gq:(op == 42)=false:=by rw [beq_eq_false_iff_ne];omega
 have gu:(op == 43)=false:=by rw [beq_eq_false_iff_ne];omega
 have gy:(op == 56)=false:=by rw [beq_eq_false_iff_ne];omega
 have gz:(op == 57)=false:=by rw [beq_eq_false_iff_ne];omega
 have gA:(op == 67)=false:=by rw [beq_eq_false_iff_ne];omega
 have gD:(op == 68)=false:=by rw [beq_eq_false_iff_ne];omega
 have a91:decide ((91:Int)<=op)=true:=decide_eq_true (by omega);have wM:decide (op<=(102:Int))=false:=decide_eq_false (by omega);have a139:decide ((139:Int)<=op)=true:=decide_eq_true (by omega);have BA:decide (op<=(166:Int))=true:=decide_eq_true (by omega);have a168:decide ((168:Int)<=op)=false:=decide_eq_false (by omega);have qC:decide ((174:Int)<=op)=false:=decide_eq_false (by omega);clear h;go_enter Tryz.func101,Tryz.ntmps101;go_wp2;go_ret;exact ⟨rfl,rfl⟩
theorem Qt (op:Int) (w:World) (h:167<=op/\op<=167):Calls Tryz.prog 101 #[.int .i64 op] w fun e w'=>e=.returned (.bool false)/\w'=w:=by
 obtain rfl:op=167:=by omega
 clear h;go_enter Tryz.func101,Tryz.ntmps101;go_wp2;go_ret;exact ⟨rfl,rfl⟩
theorem Qu (op:Int) (w:World) (h:168<=op/\op<=171):Calls Tryz.prog 101 #[.int .i64 op] w fun e w'=>e=.returned (.bool true)/\w'=w:=by
 have gq:(op == 42)=false:=by rw [beq_eq_false_iff_ne];omega
 have gu:(op == 43)=false:=by rw [beq_eq_false_iff_ne];omega
 have gy:(op == 56)=false:=by rw [beq_eq_false_iff_ne];omega
 have gz:(op == 57)=false:=by rw [beq_eq_false_iff_ne];omega
 have gA:(op == 67)=false:=by rw [beq_eq_false_iff_ne];omega
 have gD:(op == 68)=false:=by rw [beq_eq_false_iff_ne];omega
 have a91:decide ((91:Int)<=op)=true:=decide_eq_true (by omega);have wM:decide (op<=(102:Int))=false:=decide_eq_false (by omega);have a139:decide ((139:Int)<=op)=true:=decide_eq_true (by omega);have BA:decide (op<=(166:Int))=false:=decide_eq_false (by omega);have a168:decide ((168:Int)<=op)=true:=decide_eq_true (by omega);have Dw:decide (op<=(171:Int))=true:=decide_eq_true (by omega);have qC:decide ((174:Int)<=op)=false:=decide_eq_false (by omega);clear h;go_enter Tryz.func101,Tryz.ntmps101;go_wp2;go_ret;exact ⟨rfl,rfl⟩
theorem Qv (op:Int) (w:World) (h:172<=op/\op<=173):Calls Tryz.prog 101 #[.int .i64 op] w fun e w'=>e=.returned (.bool false)/\w'=w:=by
 have gq:(op == 42)=false:=by rw [beq_eq_false_iff_ne];omega
 have gu:(op == 43)=false:=by rw [beq_eq_false_iff_ne];omega
 have gy:(op == 56)=false:=by rw [beq_eq_false_iff_ne];omega
 have gz:(op == 57)=false:=by rw [beq_eq_false_iff_ne];omega
 have gA:(op == 67)=false:=by rw [beq_eq_false_iff_ne];omega
 have gD:(op == 68)=false:=by rw [beq_eq_false_iff_ne];omega
 have a91:decide ((91:Int)<=op)=true:=decide_eq_true (by omega);have wM:decide (op<=(102:Int))=false:=decide_eq_false (by omega);have a139:decide ((139:Int)<=op)=true:=decide_eq_true (by omega);have BA:decide (op<=(166:Int))=false:=decide_eq_false (by omega);have a168:decide ((168:Int)<=op)=true:=decide_eq_true (by omega);have Dw:decide (op<=(171:Int))=false:=decide_eq_false (by omega);have qC:decide ((174:Int)<=op)=false:=decide_eq_false (by omega);clear h;go_enter Tryz.func101,Tryz.ntmps101;go_wp2;go_ret;exact ⟨rfl,rfl⟩
theorem Qw (op:Int) (w:World) (h:174<=op/\op<=191):Calls Tryz.prog 101 #[.int .i64 op] w fun e w'=>e=.returned (.bool true)/\w'=w:=by
 have gq:(op == 42)=false:=by rw [beq_eq_false_iff_ne];omega
 have gu:(op == 43)=false:=by rw [beq_eq_false_iff_ne];omega
 have gy:(op == 56)=false:=by rw [beq_eq_false_iff_ne];omega
 have gz:(op == 57)=false:=by rw [beq_eq_false_iff_ne];omega
 have gA:(op == 67)=false:=by rw [beq_eq_false_iff_ne];omega
 have gD:(op == 68)=false:=by rw [beq_eq_false_iff_ne];omega
 have a91:decide ((91:Int)<=op)=true:=decide_eq_true (by omega);have wM:decide (op<=(102:Int))=false:=decide_eq_false (by omega);have a139:decide ((139:Int)<=op)=true:=decide_eq_true (by omega);have BA:decide (op<=(166:Int))=false:=decide_eq_false (by omega);have a168:decide ((168:Int)<=op)=true:=decide_eq_true (by omega);have Dw:decide (op<=(171:Int))=false:=decide_eq_false (by omega);have qC:decide ((174:Int)<=op)=true:=decide_eq_true (by omega);have Qx:decide (op<=(191:Int))=true:=decide_eq_true (by omega);clear h;go_enter Tryz.func101,Tryz.ntmps101;go_wp2;go_ret;exact ⟨rfl,rfl⟩
theorem Qy (op:Int) (w:World) (h:192<=op):Calls Tryz.prog 101 #[.int .i64 op] w fun e w'=>e=.returned (.bool false)/\w'=w:=by
 have gq:(op == 42)=false:=by rw [beq_eq_false_iff_ne];omega
 have gu:(op == 43)=false:=by rw [beq_eq_false_iff_ne];omega
 have gy:(op == 56)=false:=by rw [beq_eq_false_iff_ne];omega
 have gz:(op == 57)=false:=by rw [beq_eq_false_iff_ne];omega
 have gA:(op == 67)=false:=by rw [beq_eq_false_iff_ne];omega
 have gD:(op == 68)=false:=by rw [beq_eq_false_iff_ne];omega
 have a91:decide ((91:Int)<=op)=true:=decide_eq_true (by omega);have wM:decide (op<=(102:Int))=false:=decide_eq_false (by omega);have a139:decide ((139:Int)<=op)=true:=decide_eq_true (by omega);have BA:decide (op<=(166:Int))=false:=decide_eq_false (by omega);have a168:decide ((168:Int)<=op)=true:=decide_eq_true (by omega);have Dw:decide (op<=(171:Int))=false:=decide_eq_false (by omega);have qC:decide ((174:Int)<=op)=true:=decide_eq_true (by omega);have Qx:decide (op<=(191:Int))=false:=decide_eq_false (by omega);clear h;go_enter Tryz.func101,Tryz.ntmps101;go_wp2;go_ret;exact ⟨rfl,rfl⟩
theorem lu (op:Int) (w:World):Calls Tryz.prog 101 #[.int .i64 op] w fun e w'=>e=.returned (.bool (bz op))/\w'=w:=by
 by_cases c0:op<=41
 ·rw [show bz op=false from decide_eq_false (by omega)];exact Qg op w (by omega)
 by_cases c1:op<=42
 ·rw [show bz op=true from decide_eq_true (by omega)];exact Qh op w (by omega)
 by_cases c2:op<=43
 ·rw [show bz op=true from decide_eq_true (by omega)];exact Qi op w (by omega)
 by_cases c3:op<=55
 ·rw [show bz op=false from decide_eq_false (by omega)];exact Qj op w (by omega)
 by_cases c4:op<=56
 ·rw [show bz op=true from decide_eq_true (by omega)];exact Qk op w (by omega)
 by_cases c5:op<=57
 ·rw [show bz op=true from decide_eq_true (by omega)];exact Ql op w (by omega)
 by_cases c6:op<=66
 ·rw [show bz op=false from decide_eq_false (by omega)];exact Qm op w (by omega)
 by_cases c7:op<=67
 ·rw [show bz op=true from decide_eq_true (by omega)];exact Qn op w (by omega)
 by_cases c8:op<=68
 ·rw [show bz op=true from decide_eq_true (by omega)];exact Qo op w (by omega)
 by_cases c9:op<=90
 ·rw [show bz op=false from decide_eq_false (by omega)];exact Qp op w (by omega)
 by_cases c10:op<=102
 ·rw [show bz op=true from decide_eq_true (by omega)];exact Qq op w (by omega)
 by_cases c11:op<=138
 ·rw [show bz op=false from decide_eq_false (by omega)];exact Qr op w (by omega)
 by_cases c12:op<=166
 ·rw [show bz op=true from decide_eq_true (by omega)];exact Qs op w (by omega)
 by_cases c13:op<=167
 ·rw [show bz op=false from decide_eq_false (by omega)];exact Qt op w (by omega)
 by_cases c14:op<=171
 ·rw [show bz op=true from decide_eq_true (by omega)];exact Qu op w (by omega)
 by_cases c15:op<=173
 ·rw [show bz op=false from decide_eq_false (by omega)];exact Qv op w (by omega)
 by_cases c16:op<=191
 ·rw [show bz op=true from decide_eq_true (by omega)];exact Qw op w (by omega)
 rw [show bz op=false from decide_eq_false (by omega)];exact Qy op w (by omega)
theorem LZ {I:World->Prop} (C:ck I) (op:Int) (w:World) (h:op<=-1) (hI:I w):Calls Tryz.prog 89 #[.int .i64 op] w fun e w'=>e=.returned (.int .i64 0)/\Below w.heap.size w w':=by
 have hp:bC op=false:=decide_eq_false (by omega);have hfl:bz op=false:=decide_eq_false (by omega);have HI:=aj hI;clear hI;have q0:(op == 0)=false:=by rw [beq_eq_false_iff_ne];omega
 have q1:(op == 1)=false:=by rw [beq_eq_false_iff_ne];omega
 have ed:(op == 15)=false:=by rw [beq_eq_false_iff_ne];omega
 have ek:(op == 26)=false:=by rw [beq_eq_false_iff_ne];omega
 have eu:(op == 27)=false:=by rw [beq_eq_false_iff_ne];omega
 have ez:(op == 63)=false:=by rw [beq_eq_false_iff_ne];omega
 have eB:(op == 64)=false:=by rw [beq_eq_false_iff_ne];omega
 have q2:(op == 2)=false:=by rw [beq_eq_false_iff_ne];omega
 have q3:(op == 3)=false:=by rw [beq_eq_false_iff_ne];omega
 have q4:(op == 4)=false:=by rw [beq_eq_false_iff_ne];omega
 have eC:(op == 12)=false:=by rw [beq_eq_false_iff_ne];omega
 have eD:(op == 13)=false:=by rw [beq_eq_false_iff_ne];omega
 have eH:(op == 14)=false:=by rw [beq_eq_false_iff_ne];omega
 have q16:(op == 16)=false:=by rw [beq_eq_false_iff_ne];omega
 have eM:(op == 17)=false:=by rw [beq_eq_false_iff_ne];omega
 have eO:(op == 40)=false:=by rw [beq_eq_false_iff_ne];omega
 have eP:(op == 41)=false:=by rw [beq_eq_false_iff_ne];omega
 have eQ:(op == 65)=false:=by rw [beq_eq_false_iff_ne];omega
 have eT:(op == 66)=false:=by rw [beq_eq_false_iff_ne];omega
 have a32:decide ((32:Int)<=op)=false:=decide_eq_false (by omega);have lV:decide ((44:Int)<=op)=false:=decide_eq_false (by omega);have a58:decide ((58:Int)<=op)=false:=decide_eq_false (by omega);clear h;go_enter Tryz.func89,Tryz.ntmps89;go_wp2_with fail;refine (C.reckons _ _ HI.out).mono ?_;rintro e u ⟨rfl,hb⟩;have HB:=aj hb;clear hb;rw [hp];go_wp2_with fail;refine (lu _ _).mono ?_;rintro e u ⟨rfl,rfl⟩;rw [hfl];go_wp2;go_ret;exact ⟨rfl,HB.out⟩
theorem L6 {I:World->Prop} (C:ck I) (op:Int) (w:World) (h:0<=op/\op<=0) (hI:I w):Calls Tryz.prog 89 #[.int .i64 op] w fun e w'=>e=.returned (.int .i64 1)/\Below w.heap.size w w':=by
 have hp:bC op=false:=decide_eq_false (by omega);have hfl:bz op=false:=decide_eq_false (by omega);have HI:=aj hI;clear hI;obtain rfl:op=0:=by omega
 clear h;go_enter Tryz.func89,Tryz.ntmps89;go_wp2;go_ret;exact ⟨rfl,Below.refl _ _⟩
theorem L8 {I:World->Prop} (C:ck I) (op:Int) (w:World) (h:1<=op/\op<=1) (hI:I w):Calls Tryz.prog 89 #[.int .i64 op] w fun e w'=>e=.returned (.int .i64 1)/\Below w.heap.size w w':=by
 have hp:bC op=false:=decide_eq_false (by omega);have hfl:bz op=false:=decide_eq_false (by omega);have HI:=aj hI;clear hI;obtain rfl:op=1:=by omega
 clear h;go_enter Tryz.func89,Tryz.ntmps89;go_wp2;go_ret;exact ⟨rfl,Below.refl _ _⟩
theorem L9 {I:World->Prop} (C:ck I) (op:Int) (w:World) (h:2<=op/\op<=2) (hI:I w):Calls Tryz.prog 89 #[.int .i64 op] w fun e w'=>e=.returned (.int .i64 2)/\Below w.heap.size w w':=by
 have hp:bC op=false:=decide_eq_false (by omega);have hfl:bz op=false:=decide_eq_false (by omega);have HI:=aj hI;clear hI;obtain rfl:op=2:=by omega
 clear h;go_enter Tryz.func89,Tryz.ntmps89;go_wp2_with fail;refine (C.reckons _ _ HI.out).mono ?_;rintro e u ⟨rfl,hb⟩;have HB:=aj hb;clear hb;rw [hp];go_wp2;go_ret;exact ⟨rfl,HB.out⟩
theorem Ma {I:World->Prop} (C:ck I) (op:Int) (w:World) (h:3<=op/\op<=3) (hI:I w):Calls Tryz.prog 89 #[.int .i64 op] w fun e w'=>e=.returned (.int .i64 2)/\Below w.heap.size w w':=by
 have hp:bC op=false:=decide_eq_false (by omega);have hfl:bz op=false:=decide_eq_false (by omega);have HI:=aj hI;clear hI;obtain rfl:op=3:=by omega
 clear h;go_enter Tryz.func89,Tryz.ntmps89;go_wp2_with fail;refine (C.reckons _ _ HI.out).mono ?_;rintro e u ⟨rfl,hb⟩;have HB:=aj hb;clear hb;rw [hp];go_wp2;go_ret;exact ⟨rfl,HB.out⟩
theorem Mb {I:World->Prop} (C:ck I) (op:Int) (w:World) (h:4<=op/\op<=4) (hI:I w):Calls Tryz.prog 89 #[.int .i64 op] w fun e w'=>e=.returned (.int .i64 3)/\Below w.heap.size w w':=by
 have hp:bC op=false:=decide_eq_false (by omega);have hfl:bz op=false:=decide_eq_false (by omega);have HI:=aj hI;clear hI;obtain rfl:op=4:=by omega
 clear h;go_enter Tryz.func89,Tryz.ntmps89;go_wp2_with fail;refine (C.reckons _ _ HI.out).mono ?_;rintro e u ⟨rfl,hb⟩;have HB:=aj hb;clear hb;rw [hp];go_wp2;go_ret;exact ⟨rfl,HB.out⟩
theorem Mc {I:World->Prop} (C:ck I) (op:Int) (w:World) (h:5<=op/\op<=11) (hI:I w):Calls Tryz.prog 89 #[.int .i64 op] w fun e w'=>e=.returned (.int .i64 0)/\Below w.heap.size w w':=by
 have hp:bC op=false:=decide_eq_false (by omega);have hfl:bz op=false:=decide_eq_false (by omega);have HI:=aj hI;clear hI;have q0:(op == 0)=false:=by rw [beq_eq_false_iff_ne];omega
 have q1:(op == 1)=false:=by rw [beq_eq_false_iff_ne];omega
 have ed:(op == 15)=false:=by rw [beq_eq_false_iff_ne];omega
 have ek:(op == 26)=false:=by rw [beq_eq_false_iff_ne];omega
 have eu:(op == 27)=false:=by rw [beq_eq_false_iff_ne];omega
 have ez:(op == 63)=false:=by rw [beq_eq_false_iff_ne];omega
 have eB:(op == 64)=false:=by rw [beq_eq_false_iff_ne];omega
 have q2:(op == 2)=false:=by rw [beq_eq_false_iff_ne];omega
 have q3:(op == 3)=false:=by rw [beq_eq_false_iff_ne];omega
 have q4:(op == 4)=false:=by rw [beq_eq_false_iff_ne];omega
 have eC:(op == 12)=false:=by rw [beq_eq_false_iff_ne];omega
 have eD:(op == 13)=false:=by rw [beq_eq_false_iff_ne];omega
 have eH:(op == 14)=false:=by rw [beq_eq_false_iff_ne];omega
 have q16:(op == 16)=false:=by rw [beq_eq_false_iff_ne];omega
 have eM:(op == 17)=false:=by rw [beq_eq_false_iff_ne];omega
 have eO:(op == 40)=false:=by rw [beq_eq_false_iff_ne];omega
 have eP:(op == 41)=false:=by rw [beq_eq_false_iff_ne];omega
 have eQ:(op == 65)=false:=by rw [beq_eq_false_iff_ne];omega
 have eT:(op == 66)=false:=by rw [beq_eq_false_iff_ne];omega
 have a32:decide ((32:Int)<=op)=false:=decide_eq_false (by omega);have lV:decide ((44:Int)<=op)=false:=decide_eq_false (by omega);have a58:decide ((58:Int)<=op)=false:=decide_eq_false (by omega);clear h;go_enter Tryz.func89,Tryz.ntmps89;go_wp2_with fail;refine (C.reckons _ _ HI.out).mono ?_;rintro e u ⟨rfl,hb⟩;have HB:=aj hb;clear hb;rw [hp];go_wp2_with fail;refine (lu _ _).mono ?_;rintro e u ⟨rfl,rfl⟩;rw [hfl];go_wp2;go_ret;exact ⟨rfl,HB.out⟩
theorem Md {I:World->Prop} (C:ck I) (op:Int) (w:World) (h:12<=op/\op<=12) (hI:I w):Calls Tryz.prog 89 #[.int .i64 op] w fun e w'=>e=.returned (.int .i64 4)/\Below w.heap.size w w':=by
 have hp:bC op=false:=decide_eq_false (by omega);have hfl:bz op=false:=decide_eq_false (by omega);have HI:=aj hI;clear hI;obtain rfl:op=12:=by omega
 clear h;go_enter Tryz.func89,Tryz.ntmps89;go_wp2_with fail;refine (C.reckons _ _ HI.out).mono ?_;rintro e u ⟨rfl,hb⟩;have HB:=aj hb;clear hb;rw [hp];go_wp2;go_ret;exact ⟨rfl,HB.out⟩
theorem Me {I:World->Prop} (C:ck I) (op:Int) (w:World) (h:13<=op/\op<=13) (hI:I w):Calls Tryz.prog 89 #[.int .i64 op] w fun e w'=>e=.returned (.int .i64 4)/\Below w.heap.size w w':=by
 have hp:bC op=false:=decide_eq_false (by omega);have hfl:bz op=false:=decide_eq_false (by omega);have HI:=aj hI;clear hI;obtain rfl:op=13:=by omega
 clear h;go_enter Tryz.func89,Tryz.ntmps89;go_wp2_with fail;refine (C.reckons _ _ HI.out).mono ?_;rintro e u ⟨rfl,hb⟩;have HB:=aj hb;clear hb;rw [hp];go_wp2;go_ret;exact ⟨rfl,HB.out⟩
theorem Mf {I:World->Prop} (C:ck I) (op:Int) (w:World) (h:14<=op/\op<=14) (hI:I w):Calls Tryz.prog 89 #[.int .i64 op] w fun e w'=>e=.returned (.int .i64 5)/\Below w.heap.size w w':=by
 have hp:bC op=false:=decide_eq_false (by omega);have hfl:bz op=false:=decide_eq_false (by omega);have HI:=aj hI;clear hI;obtain rfl:op=14:=by omega
 clear h;go_enter Tryz.func89,Tryz.ntmps89;go_wp2_with fail;refine (C.reckons _ _ HI.out).mono ?_;rintro e u ⟨rfl,hb⟩;have HB:=aj hb;clear hb;rw [hp];go_wp2;go_ret;exact ⟨rfl,HB.out⟩
theorem Mg {I:World->Prop} (C:ck I) (op:Int) (w:World) (h:15<=op/\op<=15) (hI:I w):Calls Tryz.prog 89 #[.int .i64 op] w fun e w'=>e=.returned (.int .i64 1)/\Below w.heap.size w w':=by
 have hp:bC op=false:=decide_eq_false (by omega);have hfl:bz op=false:=decide_eq_false (by omega);have HI:=aj hI;clear hI;obtain rfl:op=15:=by omega
 clear h;go_enter Tryz.func89,Tryz.ntmps89;go_wp2;go_ret;exact ⟨rfl,Below.refl _ _⟩
theorem Mh {I:World->Prop} (C:ck I) (op:Int) (w:World) (h:16<=op/\op<=16) (hI:I w):Calls Tryz.prog 89 #[.int .i64 op] w fun e w'=>e=.returned (.int .i64 6)/\Below w.heap.size w w':=by
 have hp:bC op=false:=decide_eq_false (by omega);have hfl:bz op=false:=decide_eq_false (by omega);have HI:=aj hI;clear hI;obtain rfl:op=16:=by omega
 clear h;go_enter Tryz.func89,Tryz.ntmps89;go_wp2_with fail;refine (C.reckons _ _ HI.out).mono ?_;rintro e u ⟨rfl,hb⟩;have HB:=aj hb;clear hb;rw [hp];go_wp2;go_ret;exact ⟨rfl,HB.out⟩
theorem Mi {I:World->Prop} (C:ck I) (op:Int) (w:World) (h:17<=op/\op<=17) (hI:I w):Calls Tryz.prog 89 #[.int .i64 op] w fun e w'=>e=.returned (.int .i64 7)/\Below w.heap.size w w':=by
 have hp:bC op=false:=decide_eq_false (by omega);have hfl:bz op=false:=decide_eq_false (by omega);have HI:=aj hI;clear hI;obtain rfl:op=17:=by omega
 clear h;go_enter Tryz.func89,Tryz.ntmps89;go_wp2_with fail;refine (C.reckons _ _ HI.out).mono ?_;rintro e u ⟨rfl,hb⟩;have HB:=aj hb;clear hb;rw [hp];go_wp2;go_ret;exact ⟨rfl,HB.out⟩
theorem Mj {I:World->Prop} (C:ck I) (op:Int) (w:World) (h:18<=op/\op<=25) (hI:I w):Calls Tryz.prog 89 #[.int .i64 op] w fun e w'=>e=.returned (.int .i64 0)/\Below w.heap.size w w':=by
 have hp:bC op=false:=decide_eq_false (by omega);have hfl:bz op=false:=decide_eq_false (by omega);have HI:=aj hI;clear hI;have q0:(op == 0)=false:=by rw [beq_eq_false_iff_ne];omega
 have q1:(op == 1)=false:=by rw [beq_eq_false_iff_ne];omega
 have ed:(op == 15)=false:=by rw [beq_eq_false_iff_ne];omega
 have ek:(op == 26)=false:=by rw [beq_eq_false_iff_ne];omega
 have eu:(op == 27)=false:=by rw [beq_eq_false_iff_ne];omega
 have ez:(op == 63)=false:=by rw [beq_eq_false_iff_ne];omega
 have eB:(op == 64)=false:=by rw [beq_eq_false_iff_ne];omega
 have q2:(op == 2)=false:=by rw [beq_eq_false_iff_ne];omega
 have q3:(op == 3)=false:=by rw [beq_eq_false_iff_ne];omega
 have q4:(op == 4)=false:=by rw [beq_eq_false_iff_ne];omega
 have eC:(op == 12)=false:=by rw [beq_eq_false_iff_ne];omega
 have eD:(op == 13)=false:=by rw [beq_eq_false_iff_ne];omega
 have eH:(op == 14)=false:=by rw [beq_eq_false_iff_ne];omega
 have q16:(op == 16)=false:=by rw [beq_eq_false_iff_ne];omega
 have eM:(op == 17)=false:=by rw [beq_eq_false_iff_ne];omega
 have eO:(op == 40)=false:=by rw [beq_eq_false_iff_ne];omega
 have eP:(op == 41)=false:=by rw [beq_eq_false_iff_ne];omega
 have eQ:(op == 65)=false:=by rw [beq_eq_false_iff_ne];omega
 have eT:(op == 66)=false:=by rw [beq_eq_false_iff_ne];omega
 have a32:decide ((32:Int)<=op)=false:=decide_eq_false (by omega);have lV:decide ((44:Int)<=op)=false:=decide_eq_false (by omega);have a58:decide ((58:Int)<=op)=false:=decide_eq_false (by omega);clear h;go_enter Tryz.func89,Tryz.ntmps89;go_wp2_with fail;refine (C.reckons _ _ HI.out).mono ?_;rintro e u ⟨rfl,hb⟩;have HB:=aj hb;clear hb;rw [hp];go_wp2_with fail;refine (lu _ _).mono ?_;rintro e u ⟨rfl,rfl⟩;rw [hfl];go_wp2;go_ret;exact ⟨rfl,HB.out⟩
end Go.Proofs.YtegboefdolfdgaaGreatDoor
