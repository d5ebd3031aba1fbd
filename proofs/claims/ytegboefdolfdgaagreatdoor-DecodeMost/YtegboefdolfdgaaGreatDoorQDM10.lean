/- Texts that the claim needs. -/
import Derived.Test.YtegboefdolfdgaaGreatDoorQDM0
namespace Go.Proofs.YtegboefdolfdgaaGreatDoor
open Go.RowKit aA
set_option linter.unusedVariables false
set_option maxHeartbeats 1000000
theorem Sb (op:Int) (w:World) (h:26<=op/\op<=26):Calls Tryz.prog 81 #[.int .i64 op] w fun e w'=>e=.returned (.int .i64 1)/\w'=w:=by
 have hs:=cB op;have hp:decide (0<(aQ.sig op).1)=false:=by exact decide_eq_false (fun hp=>by have:=hs.1 hp;omega)
 clear hs;obtain rfl:op=26:=by omega
 clear h;go_enter Tryz.func81,Tryz.ntmps81;go_wp2_with fail;refine (cE _ _).mono ?_;rintro e u ⟨rfl,rfl⟩;generalize aQ.sig 26=t at *;go_wp2;go_ret;exact ⟨rfl,rfl⟩
theorem Sc (op:Int) (w:World) (h:27<=op/\op<=27):Calls Tryz.prog 81 #[.int .i64 op] w fun e w'=>e=.returned (.int .i64 1)/\w'=w:=by
 have hs:=cB op;have hp:decide (0<(aQ.sig op).1)=false:=by exact decide_eq_false (fun hp=>by have:=hs.1 hp;omega)
 clear hs;obtain rfl:op=27:=by omega
 clear h;go_enter Tryz.func81,Tryz.ntmps81;go_wp2_with fail;refine (cE _ _).mono ?_;rintro e u ⟨rfl,rfl⟩;generalize aQ.sig 27=t at *;go_wp2;go_ret;exact ⟨rfl,rfl⟩
theorem Sd (op:Int) (w:World) (h:28<=op/\op<=31):Calls Tryz.prog 81 #[.int .i64 op] w fun e w'=>e=.returned (.int .i64 0)/\w'=w:=by
 have hs:=cB op;have hp:decide (0<(aQ.sig op).1)=false:=by exact decide_eq_false (fun hp=>by have:=hs.1 hp;omega)
 clear hs;have q0:(op == 0)=false:=by rw [beq_eq_false_iff_ne];omega
 have q1:(op == 1)=false:=by rw [beq_eq_false_iff_ne];omega
 have ed:(op == 15)=false:=by rw [beq_eq_false_iff_ne];omega
 have ek:(op == 26)=false:=by rw [beq_eq_false_iff_ne];omega
 have eu:(op == 27)=false:=by rw [beq_eq_false_iff_ne];omega
 have ez:(op == 63)=false:=by rw [beq_eq_false_iff_ne];omega
 have eB:(op == 64)=false:=by rw [beq_eq_false_iff_ne];omega
 have q2:(op == 2)=false:=by rw [beq_eq_false_iff_ne];omega
 have q3:(op == 3)=false:=by rw [beq_eq_false_iff_ne];omega
 have q4:(op == 4)=false:=by rw [beq_eq_false_iff_ne];omega
 have eC:(op == 12)=false:=by rw [beq_eq_false_iff_ne];omega
 have eD:(op == 13)=false:=by rw [beq_eq_false_iff_ne];omega
 have eH:(op == 14)=false:=by rw [beq_eq_false_iff_ne];omega
 have q16:(op == 16)=false:=by rw [beq_eq_false_iff_ne];omega
 have eM:(op == 17)=false:=by rw [beq_eq_false_iff_ne];omega
 have eO:(op == 40)=false:=by rw [beq_eq_false_iff_ne];omega
 have eP:(op == 41)=false:=by rw [beq_eq_false_iff_ne];omega
 have eQ:(op == 65)=false:=by rw [beq_eq_false_iff_ne];omega
 have eT:(op == 66)=false:=by rw [beq_eq_false_iff_ne];omega
 have gq:(op == 42)=false:=by rw [beq_eq_false_iff_ne];omega
 have gu:(op == 43)=false:=by rw [beq_eq_false_iff_ne];omega
 have gy:(op == 56)=false:=by rw [beq_eq_false_iff_ne];omega
 have gz:(op == 57)=false:=by rw [beq_eq_false_iff_ne];omega
 have gA:(op == 67)=false:=by rw [beq_eq_false_iff_ne];omega
 have gD:(op == 68)=false:=by rw [beq_eq_false_iff_ne];omega
 have r32:decide (32<=op/\op<=36)=false:=decide_eq_false (by omega);have R32:=aj r32;clear r32;have bS:decide (44<=op/\op<=55)=false:=decide_eq_false (by omega);have fP:=aj bS;clear bS;have bT:decide (58<=op/\op<=62)=false:=decide_eq_false (by omega);have gF:=aj bT;clear bT;have bU:decide (91<=op/\op<=102)=false:=decide_eq_false (by omega);have gP:=aj bU;clear bU;have bV:decide (139<=op/\op<=166)=false:=decide_eq_false (by omega);have ia:=aj bV;clear bV;have bW:decide (168<=op/\op<=171)=false:=decide_eq_false (by omega);have iE:=aj bW;clear bW;have bX:decide (174<=op/\op<=191)=false:=decide_eq_false (by omega);have iT:=aj bX;clear bX;clear h;go_enter Tryz.func81,Tryz.ntmps81;go_wp2_with fail;refine (cE _ _).mono ?_;rintro e u ⟨rfl,rfl⟩;generalize aQ.sig op=t at *;go_wp2_with fail;refine (aO _ _ _ _).mono ?_;rintro e u ⟨rfl,rfl⟩;rw [R32.out];go_wp2_with fail;refine (aO _ _ _ _).mono ?_;rintro e u ⟨rfl,rfl⟩;rw [fP.out];go_wp2_with fail;refine (aO _ _ _ _).mono ?_;rintro e u ⟨rfl,rfl⟩;rw [gF.out];go_wp2_with fail;refine (aO _ _ _ _).mono ?_;rintro e u ⟨rfl,rfl⟩;rw [gP.out];go_wp2_with fail;refine (aO _ _ _ _).mono ?_;rintro e u ⟨rfl,rfl⟩;rw [ia.out];go_wp2_with fail;refine (aO _ _ _ _).mono ?_;rintro e u ⟨rfl,rfl⟩;rw [iE.out];go_wp2_with fail;refine (aO _ _ _ _).mono ?_;rintro e u ⟨rfl,rfl⟩;rw [iT.out];go_wp2;go_ret;exact ⟨rfl,rfl⟩
theorem Se (op:Int) (w:World) (h:32<=op/\op<=36):Calls Tryz.prog 81 #[.int .i64 op] w fun e w'=>e=.returned (.int .i64 6)/\w'=w:=by
 have hs:=cB op;have hp:decide (0<(aQ.sig op).1)=false:=by exact decide_eq_false (fun hp=>by have:=hs.1 hp;omega)
 clear hs;have q0:(op == 0)=false:=by rw [beq_eq_false_iff_ne];omega
 have q1:(op == 1)=false:=by rw [beq_eq_false_iff_ne];omega
 have ed:(op == 15)=false:=by rw [beq_eq_false_iff_ne];omega
 have ek:(op == 26)=false:=by rw [beq_eq_false_iff_ne];omega
 have eu:(op == 27)=false:=by rw [beq_eq_false_iff_ne];omega
 have ez:(op == 63)=false:=by rw [beq_eq_false_iff_ne];omega
 have eB:(op == 64)=false:=by rw [beq_eq_false_iff_ne];omega
 have q2:(op == 2)=false:=by rw [beq_eq_false_iff_ne];omega
 have q3:(op == 3)=false:=by rw [beq_eq_false_iff_ne];omega
 have q4:(op == 4)=false:=by rw [beq_eq_false_iff_ne];omega
 have eC:(op == 12)=false:=by rw [beq_eq_false_iff_ne];omega
 have eD:(op == 13)=false:=by rw [beq_eq_false_iff_ne];omega
 have eH:(op == 14)=false:=by rw [beq_eq_false_iff_ne];omega
 have q16:(op == 16)=false:=by rw [beq_eq_false_iff_ne];omega
 have eM:(op == 17)=false:=by rw [beq_eq_false_iff_ne];omega
 have eO:(op == 40)=false:=by rw [beq_eq_false_iff_ne];omega
 have eP:(op == 41)=false:=by rw [beq_eq_false_iff_ne];omega
 have eQ:(op == 65)=false:=by rw [beq_eq_false_iff_ne];omega
 have eT:(op == 66)=false:=by rw [beq_eq_false_iff_ne];omega
 have gq:(op == 42)=false:=by rw [beq_eq_false_iff_ne];omega
 have gu:(op == 43)=false:=by rw [beq_eq_false_iff_ne];omega
 have gy:(op == 56)=false:=by rw [beq_eq_false_iff_ne];omega
 have gz:(op == 57)=false:=by rw [beq_eq_false_iff_ne];omega
 have gA:(op == 67)=false:=by rw [beq_eq_false_iff_ne];omega
 have gD:(op == 68)=false:=by rw [beq_eq_false_iff_ne];omega
 have r32:decide (32<=op/\op<=36)=true:=decide_eq_true (by omega);have R32:=aj r32;clear r32;have bS:decide (44<=op/\op<=55)=false:=decide_eq_false (by omega);have fP:=aj bS;clear bS;have bT:decide (58<=op/\op<=62)=false:=decide_eq_false (by omega);have gF:=aj bT;clear bT;have bU:decide (91<=op/\op<=102)=false:=decide_eq_false (by omega);have gP:=aj bU;clear bU;have bV:decide (139<=op/\op<=166)=false:=decide_eq_false (by omega);have ia:=aj bV;clear bV;have bW:decide (168<=op/\op<=171)=false:=decide_eq_false (by omega);have iE:=aj bW;clear bW;have bX:decide (174<=op/\op<=191)=false:=decide_eq_false (by omega);have iT:=aj bX;clear bX;clear h;go_enter Tryz.func81,Tryz.ntmps81;go_wp2_with fail;refine (cE _ _).mono ?_;rintro e u ⟨rfl,rfl⟩;generalize aQ.sig op=t at *;go_wp2_with fail;refine (aO _ _ _ _).mono ?_;rintro e u ⟨rfl,rfl⟩;rw [R32.out];go_wp2;go_ret;exact ⟨rfl,rfl⟩
theorem Sf (op:Int) (w:World) (h:37<=op/\op<=39):Calls Tryz.prog 81 #[.int .i64 op] w fun e w'=>e=.returned (.int .i64 0)/\w'=w:=by
 have hs:=cB op;have hp:decide (0<(aQ.sig op).1)=false:=by exact decide_eq_false (fun hp=>by have:=hs.1 hp;omega)
 clear hs;have q0:(op == 0)=false:=by rw [beq_eq_false_iff_ne];omega
 have q1:(op == 1)=false:=by rw [beq_eq_false_iff_ne];omega
 have ed:(op == 15)=false:=by rw [beq_eq_false_iff_ne];omega
 have ek:(op == 26)=false:=by rw [beq_eq_false_iff_ne];omega
 have eu:(op == 27)=false:=by rw [beq_eq_false_iff_ne];omega
 have ez:(op == 63)=false:=by rw [beq_eq_false_iff_ne];omega
 have eB:(op == 64)=false:=by rw [beq_eq_false_iff_ne];omega
 have q2:(op == 2)=false:=by rw [beq_eq_false_iff_ne];omega
 have q3:(op == 3)=false:=by rw [beq_eq_false_iff_ne];omega
 have q4:(op == 4)=false:=by rw [beq_eq_false_iff_ne];omega
 have eC:(op == 12)=false:=by rw [beq_eq_false_iff_ne];omega
 have eD:(op == 13)=false:=by rw [beq_eq_false_iff_ne];omega
 have eH:(op == 14)=false:=by rw [beq_eq_false_iff_ne];omega
 have q16:(op == 16)=false:=by rw [beq_eq_false_iff_ne];omega
 have eM:(op == 17)=false:=by rw [beq_eq_false_iff_ne];omega
 have eO:(op == 40)=false:=by rw [beq_eq_false_iff_ne];omega
 have eP:(op == 41)=false:=by rw [beq_eq_false_iff_ne];omega
 have eQ:(op == 65)=false:=by rw [beq_eq_false_iff_ne];omega
 have eT:(op == 66)=false:=by rw [beq_eq_false_iff_ne];omega
 have gq:(op == 42)=false:=by rw [beq_eq_false_iff_ne];omega
 have gu:(op == 43)=false:=by rw [beq_eq_false_iff_ne];omega
 have gy:(op == 56)=false:=by rw [beq_eq_false_iff_ne];omega
 have gz:(op == 57)=false:=by rw [beq_eq_false_iff_ne];omega
 have gA:(op == 67)=false:=by rw [beq_eq_false_iff_ne];omega
 have gD:(op == 68)=false:=by rw [beq_eq_false_iff_ne];omega
 have r32:decide (32<=op/\op<=36)=false:=decide_eq_false (by omega);have R32:=aj r32;clear r32;have bS:decide (44<=op/\op<=55)=false:=decide_eq_false (by omega);have fP:=aj bS;clear bS;have bT:decide (58<=op/\op<=62)=false:=decide_eq_false (by omega);have gF:=aj bT;clear bT;have bU:decide (91<=op/\op<=102)=false:=decide_eq_false (by omega);have gP:=aj bU;clear bU;have bV:decide (139<=op/\op<=166)=false:=decide_eq_false (by omega);have ia:=aj bV;clear bV;have bW:decide (168<=op/\op<=171)=false:=decide_eq_false (by omega);have iE:=aj bW;clear bW;have bX:decide (174<=op/\op<=191)=false:=decide_eq_false (by omega);have iT:=aj bX;clear bX;clear h;go_enter Tryz.func81,Tryz.ntmps81;go_wp2_with fail;refine (cE _ _).mono ?_;rintro e u ⟨rfl,rfl⟩;generalize aQ.sig op=t at *;go_wp2_with fail;refine (aO _ _ _ _).mono ?_;rintro e u ⟨rfl,rfl⟩;rw [R32.out];go_wp2_with fail;refine (aO _ _ _ _).mono ?_;rintro e u ⟨rfl,rfl⟩;rw [fP.out];go_wp2_with fail;refine (aO _ _ _ _).mono ?_;rintro e u ⟨rfl,rfl⟩;rw [gF.out];go_wp2_with fail;refine (aO _ _ _ _).mono ?_;rintro e u ⟨rfl,rfl⟩;rw [gP.out];go_wp2_with fail;refine (aO _ _ _ _).mono ?_;rintro e u ⟨rfl,rfl⟩;rw [ia.out];go_wp2_with fail;refine (aO _ _ _ _).mono ?_;rintro e u ⟨rfl,rfl⟩;rw [iE.out];go_wp2_with fail;refine (aO _ _ _ _).mono ?_;rintro e u ⟨rfl,rfl⟩;rw [iT.out];go_wp2;go_ret;exact ⟨rfl,rfl⟩
theorem Si (op:Int) (w:World) (h:40<=op/\op<=40):Calls Tryz.prog 81 #[.int .i64 op] w fun e w'=>e=.returned (.int .i64 8)/\w'=w:=by
 have hs:=cB op;have hp:decide (0<(aQ.sig op).1)=false:=by exact decide_eq_false (fun hp=>by have:=hs.1 hp;omega)
 clear hs;obtain rfl:op=40:=by omega
 clear h;go_enter Tryz.func81,Tryz.ntmps81;go_wp2_with fail;refine (cE _ _).mono ?_;rintro e u ⟨rfl,rfl⟩;generalize aQ.sig 40=t at *;go_wp2_with fail;refine (aO _ _ _ _).mono ?_;rintro e u ⟨rfl,rfl⟩;rw [show decide ((32:Int)<=40/\(40:Int)<=36)=false by decide];go_wp2;go_ret;exact ⟨rfl,rfl⟩
theorem Sj (op:Int) (w:World) (h:41<=op/\op<=41):Calls Tryz.prog 81 #[.int .i64 op] w fun e w'=>e=.returned (.int .i64 8)/\w'=w:=by
 have hs:=cB op;have hp:decide (0<(aQ.sig op).1)=false:=by exact decide_eq_false (fun hp=>by have:=hs.1 hp;omega)
 clear hs;obtain rfl:op=41:=by omega
 clear h;go_enter Tryz.func81,Tryz.ntmps81;go_wp2_with fail;refine (cE _ _).mono ?_;rintro e u ⟨rfl,rfl⟩;generalize aQ.sig 41=t at *;go_wp2_with fail;refine (aO _ _ _ _).mono ?_;rintro e u ⟨rfl,rfl⟩;rw [show decide ((32:Int)<=41/\(41:Int)<=36)=false by decide];go_wp2;go_ret;exact ⟨rfl,rfl⟩
theorem Sk (op:Int) (w:World) (h:42<=op/\op<=42):Calls Tryz.prog 81 #[.int .i64 op] w fun e w'=>e=.returned (.int .i64 10)/\w'=w:=by
 have hs:=cB op;have hp:decide (0<(aQ.sig op).1)=false:=by exact decide_eq_false (fun hp=>by have:=hs.1 hp;omega)
 clear hs;obtain rfl:op=42:=by omega
 clear h;go_enter Tryz.func81,Tryz.ntmps81;go_wp2_with fail;refine (cE _ _).mono ?_;rintro e u ⟨rfl,rfl⟩;generalize aQ.sig 42=t at *;go_wp2_with fail;refine (aO _ _ _ _).mono ?_;rintro e u ⟨rfl,rfl⟩;rw [show decide ((32:Int)<=42/\(42:Int)<=36)=false by decide];go_wp2_with fail;refine (aO _ _ _ _).mono ?_;rintro e u ⟨rfl,rfl⟩;rw [show decide ((44:Int)<=42/\(42:Int)<=55)=false by decide];go_wp2_with fail;refine (aO _ _ _ _).mono ?_;rintro e u ⟨rfl,rfl⟩;rw [show decide ((58:Int)<=42/\(42:Int)<=62)=false by decide];go_wp2;go_ret;exact ⟨rfl,rfl⟩
theorem Sl (op:Int) (w:World) (h:43<=op/\op<=43):Calls Tryz.prog 81 #[.int .i64 op] w fun e w'=>e=.returned (.int .i64 10)/\w'=w:=by
 have hs:=cB op;have hp:decide (0<(aQ.sig op).1)=false:=by exact decide_eq_false (fun hp=>by have:=hs.1 hp;omega)
 clear hs;obtain rfl:op=43:=by omega
 clear h;go_enter Tryz.func81,Tryz.ntmps81;go_wp2_with fail;refine (cE _ _).mono ?_;rintro e u ⟨rfl,rfl⟩;generalize aQ.sig 43=t at *;go_wp2_with fail;refine (aO _ _ _ _).mono ?_;rintro e u ⟨rfl,rfl⟩;rw [show decide ((32:Int)<=43/\(43:Int)<=36)=false by decide];go_wp2_with fail;refine (aO _ _ _ _).mono ?_;rintro e u ⟨rfl,rfl⟩;rw [show decide ((44:Int)<=43/\(43:Int)<=55)=false by decide];go_wp2_with fail;refine (aO _ _ _ _).mono ?_;rintro e u ⟨rfl,rfl⟩;rw [show decide ((58:Int)<=43/\(43:Int)<=62)=false by decide];go_wp2;go_ret;exact ⟨rfl,rfl⟩
theorem Sn (op:Int) (w:World) (h:44<=op/\op<=55):Calls Tryz.prog 81 #[.int .i64 op] w fun e w'=>e=.returned (.int .i64 8)/\w'=w:=by
 have hs:=cB op;have hp:decide (0<(aQ.sig op).1)=false:=by exact decide_eq_false (fun hp=>by have:=hs.1 hp;omega)
 clear hs;have q0:(op == 0)=false:=by rw [beq_eq_false_iff_ne];omega
 have q1:(op == 1)=false:=by rw [beq_eq_false_iff_ne];omega
 have ed:(op == 15)=false:=by rw [beq_eq_false_iff_ne];omega
 have ek:(op == 26)=false:=by rw [beq_eq_false_iff_ne];omega
 have eu:(op == 27)=false:=by rw [beq_eq_false_iff_ne];omega
 have ez:(op == 63)=false:=by rw [beq_eq_false_iff_ne];omega
 have eB:(op == 64)=false:=by rw [beq_eq_false_iff_ne];omega
 have q2:(op == 2)=false:=by rw [beq_eq_false_iff_ne];omega
 have q3:(op == 3)=false:=by rw [beq_eq_false_iff_ne];omega
 have q4:(op == 4)=false:=by rw [beq_eq_false_iff_ne];omega
 have eC:(op == 12)=false:=by rw [beq_eq_false_iff_ne];omega
 have eD:(op == 13)=false:=by rw [beq_eq_false_iff_ne];omega
 have eH:(op == 14)=false:=by rw [beq_eq_false_iff_ne];omega
 have q16:(op == 16)=false:=by rw [beq_eq_false_iff_ne];omega
 have eM:(op == 17)=false:=by rw [beq_eq_false_iff_ne];omega
 have eO:(op == 40)=false:=by rw [beq_eq_false_iff_ne];omega
 have eP:(op == 41)=false:=by rw [beq_eq_false_iff_ne];omega
 have eQ:(op == 65)=false:=by rw [beq_eq_false_iff_ne];omega
 have eT:(op == 66)=false:=by rw [beq_eq_false_iff_ne];omega
 have gq:(op == 42)=false:=by rw [beq_eq_false_iff_ne];omega
 have gu:(op == 43)=false:=by rw [beq_eq_false_iff_ne];omega
 have gy:(op == 56)=false:=by rw [beq_eq_false_iff_ne];omega
 have gz:(op == 57)=false:=by rw [beq_eq_false_iff_ne];omega
 have gA:(op == 67)=false:=by rw [beq_eq_false_iff_ne];omega
 have gD:(op == 68)=false:=by rw [beq_eq_false_iff_ne];omega
 have r32:decide (32<=op/\op<=36)=false:=decide_eq_false (by omega);have R32:=aj r32;clear r32;have bS:decide (44<=op/\op<=55)=true:=decide_eq_true (by omega);have fP:=aj bS;clear bS;have bT:decide (58<=op/\op<=62)=false:=decide_eq_false (by omega);have gF:=aj bT;clear bT;have bU:decide (91<=op/\op<=102)=false:=decide_eq_false (by omega);have gP:=aj bU;clear bU;have bV:decide (139<=op/\op<=166)=false:=decide_eq_false (by omega);have ia:=aj bV;clear bV;have bW:decide (168<=op/\op<=171)=false:=decide_eq_false (by omega);have iE:=aj bW;clear bW;have bX:decide (174<=op/\op<=191)=false:=decide_eq_false (by omega);have iT:=aj bX;clear bX;clear h;go_enter Tryz.func81,Tryz.ntmps81;go_wp2_with fail;refine (cE _ _).mono ?_;rintro e u ⟨rfl,rfl⟩;generalize aQ.sig op=t at *;go_wp2_with fail;refine (aO _ _ _ _).mono ?_;rintro e u ⟨rfl,rfl⟩;rw [R32.out];go_wp2_with fail;refine (aO _ _ _ _).mono ?_;rintro e u ⟨rfl,rfl⟩;rw [fP.out];go_wp2;go_ret;exact ⟨rfl,rfl⟩
theorem Sq (op:Int) (w:World) (h:56<=op/\op<=56):Calls Tryz.prog 81 #[.int .i64 op] w fun e w'=>e=.returned (.int .i64 10)/\w'=w:=by
 have hs:=cB op;have hp:decide (0<(aQ.sig op).1)=false:=by exact decide_eq_false (fun hp=>by have:=hs.1 hp;omega)
 clear hs;obtain rfl:op=56:=by omega
 clear h;go_enter Tryz.func81,Tryz.ntmps81;go_wp2_with fail;refine (cE _ _).mono ?_;rintro e u ⟨rfl,rfl⟩;generalize aQ.sig 56=t at *;go_wp2_with fail;refine (aO _ _ _ _).mono ?_;rintro e u ⟨rfl,rfl⟩;rw [show decide ((32:Int)<=56/\(56:Int)<=36)=false by decide];go_wp2_with fail;refine (aO _ _ _ _).mono ?_;rintro e u ⟨rfl,rfl⟩;rw [show decide ((44:Int)<=56/\(56:Int)<=55)=false by decide];go_wp2_with fail;refine (aO _ _ _ _).mono ?_;rintro e u ⟨rfl,rfl⟩;rw [show decide ((58:Int)<=56/\(56:Int)<=62)=false by decide];go_wp2;go_ret;exact ⟨rfl,rfl⟩
theorem Sr (op:Int) (w:World) (h:57<=op/\op<=57):Calls Tryz.prog 81 #[.int .i64 op] w fun e w'=>e=.returned (.int .i64 10)/\w'=w:=by
 have hs:=cB op;have hp:decide (0<(aQ.sig op).1)=false:=by exact decide_eq_false (fun hp=>by have:=hs.1 hp;omega)
 clear hs;obtain rfl:op=57:=by omega
 clear h;go_enter Tryz.func81,Tryz.ntmps81;go_wp2_with fail;refine (cE _ _).mono ?_;rintro e u ⟨rfl,rfl⟩;generalize aQ.sig 57=t at *;go_wp2_with fail;refine (aO _ _ _ _).mono ?_;rintro e u ⟨rfl,rfl⟩;rw [show decide ((32:Int)<=57/\(57:Int)<=36)=false by decide];go_wp2_with fail;refine (aO _ _ _ _).mono ?_;rintro e u ⟨rfl,rfl⟩;rw [show decide ((44:Int)<=57/\(57:Int)<=55)=false by decide];go_wp2_with fail;refine (aO _ _ _ _).mono ?_;rintro e u ⟨rfl,rfl⟩;rw [show decide ((58:Int)<=57/\(57:Int)<=62)=false by decide];go_wp2;go_ret;exact ⟨rfl,rfl⟩
theorem Ss (op:Int) (w:World) (h:58<=op/\op<=62):Calls Tryz.prog 81 #[.int .i64 op] w fun e w'=>e=.returned (.int .i64 8)/\w'=w:=by
 have hs:=cB op;have hp:decide (0<(aQ.sig op).1)=false:=by exact decide_eq_false (fun hp=>by have:=hs.1 hp;omega)
 clear hs;have q0:(op == 0)=false:=by rw [beq_eq_false_iff_ne];omega
 have q1:(op == 1)=false:=by rw [beq_eq_false_iff_ne];omega
 have ed:(op == 15)=false:=by rw [beq_eq_false_iff_ne];omega
 have ek:(op == 26)=false:=by rw [beq_eq_false_iff_ne];omega
 have eu:(op == 27)=false:=by rw [beq_eq_false_iff_ne];omega
 have ez:(op == 63)=false:=by rw [beq_eq_false_iff_ne];omega
 have eB:(op == 64)=false:=by rw [beq_eq_false_iff_ne];omega
 have q2:(op == 2)=false:=by rw [beq_eq_false_iff_ne];omega
 have q3:(op == 3)=false:=by rw [beq_eq_false_iff_ne];omega
 have q4:(op == 4)=false:=by rw [beq_eq_false_iff_ne];omega
 have eC:(op == 12)=false:=by rw [beq_eq_false_iff_ne];omega
 have eD:(op == 13)=false:=by rw [beq_eq_false_iff_ne];omega
 have eH:(op == 14)=false:=by rw [beq_eq_false_iff_ne];omega
 have q16:(op == 16)=false:=by rw [beq_eq_false_iff_ne];omega
 have eM:(op == 17)=false:=by rw [beq_eq_false_iff_ne];omega
 have eO:(op == 40)=false:=by rw [beq_eq_false_iff_ne];omega
 have eP:(op == 41)=false:=by rw [beq_eq_false_iff_ne];omega
 have eQ:(op == 65)=false:=by rw [beq_eq_false_iff_ne];omega
 have eT:(op == 66)=false:=by rw [beq_eq_false_iff_ne];omega
 have gq:(op == 42)=false:=by rw [beq_eq_false_iff_ne];omega
 have gu:(op == 43)=false:=by rw [beq_eq_false_iff_ne];omega
 have gy:(op == 56)=false:=by rw [beq_eq_false_iff_ne];omega
 have gz:(op == 57)=false:=by rw [beq_eq_false_iff_ne];omega
 have gA:(op == 67)=false:=by rw [beq_eq_false_iff_ne];omega
 have gD:(op == 68)=false:=by rw [beq_eq_false_iff_ne];omega
 have r32:decide (32<=op/\op<=36)=false:=decide_eq_false (by omega);have R32:=aj r32;clear r32;have bS:decide (44<=op/\op<=55)=false:=decide_eq_false (by omega);have fP:=aj bS;clear bS;have bT:decide (58<=op/\op<=62)=true:=decide_eq_true (by omega);have gF:=aj bT;clear bT;have bU:decide (91<=op/\op<=102)=false:=decide_eq_false (by omega);have gP:=aj bU;clear bU;have bV:decide (139<=op/\op<=166)=false:=decide_eq_false (by omega);have ia:=aj bV;clear bV;have bW:decide (168<=op/\op<=171)=false:=decide_eq_false (by omega);have iE:=aj bW;clear bW;have bX:decide (174<=op/\op<=191)=false:=decide_eq_false (by omega);have iT:=aj bX;clear bX;clear h;go_enter Tryz.func81,Tryz.ntmps81;go_wp2_with fail;refine (cE _ _).mono ?_;rintro e u ⟨rfl,rfl⟩;generalize aQ.sig op=t at *;go_wp2_with fail;refine (aO _ _ _ _).mono ?_;rintro e u ⟨rfl,rfl⟩;rw [R32.out];go_wp2_with fail;refine (aO _ _ _ _).mono ?_;rintro e u ⟨rfl,rfl⟩;rw [fP.out];go_wp2_with fail;refine (aO _ _ _ _).mono ?_;rintro e u ⟨rfl,rfl⟩;rw [gF.out];go_wp2;go_ret;exact ⟨rfl,rfl⟩
theorem Su (op:Int) (w:World) (h:63<=op/\op<=63):Calls Tryz.prog 81 #[.int .i64 op] w fun e w'=>e=.returned (.int .i64 1)/\w'=w:=by
 have hs:=cB op;have hp:decide (0<(aQ.sig op).1)=false:=by exact decide_eq_false (fun hp=>by have:=hs.1 hp;omega)
 clear hs;obtain rfl:op=63:=by omega
 clear h;go_enter Tryz.func81,Tryz.ntmps81;go_wp2_with fail;refine (cE _ _).mono ?_;rintro e u ⟨rfl,rfl⟩;generalize aQ.sig 63=t at *;go_wp2;go_ret;exact ⟨rfl,rfl⟩
end Go.Proofs.YtegboefdolfdgaaGreatDoor
