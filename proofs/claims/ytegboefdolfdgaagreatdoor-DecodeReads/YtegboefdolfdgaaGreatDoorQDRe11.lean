/- Texts that the claim needs. -/
import Derived.Test.YtegboefdolfdgaaGreatDoorQDRe0
import Derived.Test.YtegboefdolfdgaaGreatDoorQDRe9
import Derived.Test.YtegboefdolfdgaaGreatDoorQDRe10
namespace Go.Proofs.YtegboefdolfdgaaGreatDoor
open Go.RowKit aA
set_option linter.unusedVariables false
set_option maxHeartbeats 1000000
theorem QI (op:Int) (w:World) (h:64<=op/\op<=64):Calls Tryz.prog 81 #[.int .i64 op] w fun e w'=>e=.returned (.int .i64 1)/\w'=w:=by
 have hs:=cz op;have hp:decide (0<(aQ.sig op).1)=false:=by exact decide_eq_false (fun hp=>by have:=hs.1 hp;omega)
 clear hs;obtain rfl:op=64:=by omega
 clear h;go_enter Tryz.func81,Tryz.ntmps81;go_wp2_with fail;refine (cA _ _).mono ?_;rintro e u ⟨rfl,rfl⟩;generalize aQ.sig 64=t at *;go_wp2;go_ret;exact ⟨rfl,rfl⟩
theorem QJ (op:Int) (w:World) (h:65<=op/\op<=65):Calls Tryz.prog 81 #[.int .i64 op] w fun e w'=>e=.returned (.int .i64 9)/\w'=w:=by
 have hs:=cz op;have hp:decide (0<(aQ.sig op).1)=false:=by exact decide_eq_false (fun hp=>by have:=hs.1 hp;omega)
 clear hs;obtain rfl:op=65:=by omega
 clear h;go_enter Tryz.func81,Tryz.ntmps81;go_wp2_with fail;refine (cA _ _).mono ?_;rintro e u ⟨rfl,rfl⟩;generalize aQ.sig 65=t at *;go_wp2_with fail;refine (aO _ _ _ _).mono ?_;rintro e u ⟨rfl,rfl⟩;rw [show decide ((32:Int)<=65/\(65:Int)<=36)=false by decide];go_wp2_with fail;refine (aO _ _ _ _).mono ?_;rintro e u ⟨rfl,rfl⟩;rw [show decide ((44:Int)<=65/\(65:Int)<=55)=false by decide];go_wp2_with fail;refine (aO _ _ _ _).mono ?_;rintro e u ⟨rfl,rfl⟩;rw [show decide ((58:Int)<=65/\(65:Int)<=62)=false by decide];go_wp2;go_ret;exact ⟨rfl,rfl⟩
theorem QK (op:Int) (w:World) (h:66<=op/\op<=66):Calls Tryz.prog 81 #[.int .i64 op] w fun e w'=>e=.returned (.int .i64 9)/\w'=w:=by
 have hs:=cz op;have hp:decide (0<(aQ.sig op).1)=false:=by exact decide_eq_false (fun hp=>by have:=hs.1 hp;omega)
 clear hs;obtain rfl:op=66:=by omega
 clear h;go_enter Tryz.func81,Tryz.ntmps81;go_wp2_with fail;refine (cA _ _).mono ?_;rintro e u ⟨rfl,rfl⟩;generalize aQ.sig 66=t at *;go_wp2_with fail;refine (aO _ _ _ _).mono ?_;rintro e u ⟨rfl,rfl⟩;rw [show decide ((32:Int)<=66/\(66:Int)<=36)=false by decide];go_wp2_with fail;refine (aO _ _ _ _).mono ?_;rintro e u ⟨rfl,rfl⟩;rw [show decide ((44:Int)<=66/\(66:Int)<=55)=false by decide];go_wp2_with fail;refine (aO _ _ _ _).mono ?_;rintro e u ⟨rfl,rfl⟩;rw [show decide ((58:Int)<=66/\(66:Int)<=62)=false by decide];go_wp2;go_ret;exact ⟨rfl,rfl⟩
theorem QL (op:Int) (w:World) (h:67<=op/\op<=67):Calls Tryz.prog 81 #[.int .i64 op] w fun e w'=>e=.returned (.int .i64 10)/\w'=w:=by
 have hs:=cz op;have hp:decide (0<(aQ.sig op).1)=false:=by exact decide_eq_false (fun hp=>by have:=hs.1 hp;omega)
 clear hs;obtain rfl:op=67:=by omega
 clear h;go_enter Tryz.func81,Tryz.ntmps81;go_wp2_with fail;refine (cA _ _).mono ?_;rintro e u ⟨rfl,rfl⟩;generalize aQ.sig 67=t at *;go_wp2_with fail;refine (aO _ _ _ _).mono ?_;rintro e u ⟨rfl,rfl⟩;rw [show decide ((32:Int)<=67/\(67:Int)<=36)=false by decide];go_wp2_with fail;refine (aO _ _ _ _).mono ?_;rintro e u ⟨rfl,rfl⟩;rw [show decide ((44:Int)<=67/\(67:Int)<=55)=false by decide];go_wp2_with fail;refine (aO _ _ _ _).mono ?_;rintro e u ⟨rfl,rfl⟩;rw [show decide ((58:Int)<=67/\(67:Int)<=62)=false by decide];go_wp2;go_ret;exact ⟨rfl,rfl⟩
theorem QM (op:Int) (w:World) (h:68<=op/\op<=68):Calls Tryz.prog 81 #[.int .i64 op] w fun e w'=>e=.returned (.int .i64 10)/\w'=w:=by
 have hs:=cz op;have hp:decide (0<(aQ.sig op).1)=false:=by exact decide_eq_false (fun hp=>by have:=hs.1 hp;omega)
 clear hs;obtain rfl:op=68:=by omega
 clear h;go_enter Tryz.func81,Tryz.ntmps81;go_wp2_with fail;refine (cA _ _).mono ?_;rintro e u ⟨rfl,rfl⟩;generalize aQ.sig 68=t at *;go_wp2_with fail;refine (aO _ _ _ _).mono ?_;rintro e u ⟨rfl,rfl⟩;rw [show decide ((32:Int)<=68/\(68:Int)<=36)=false by decide];go_wp2_with fail;refine (aO _ _ _ _).mono ?_;rintro e u ⟨rfl,rfl⟩;rw [show decide ((44:Int)<=68/\(68:Int)<=55)=false by decide];go_wp2_with fail;refine (aO _ _ _ _).mono ?_;rintro e u ⟨rfl,rfl⟩;rw [show decide ((58:Int)<=68/\(68:Int)<=62)=false by decide];go_wp2;go_ret;exact ⟨rfl,rfl⟩
theorem QN (op:Int) (w:World) (h:69<=op/\op<=90):Calls Tryz.prog 81 #[.int .i64 op] w fun e w'=>e=.returned (.int .i64 1)/\w'=w:=by
 have hs:=cz op;have hp:decide (0<(aQ.sig op).1)=true:=by exact decide_eq_true (hs.2 (by omega))
 clear hs;have q0:(op == 0)=false:=by rw [beq_eq_false_iff_ne];omega
 have q1:(op == 1)=false:=by rw [beq_eq_false_iff_ne];omega
 have ed:(op == 15)=false:=by rw [beq_eq_false_iff_ne];omega
 have ek:(op == 26)=false:=by rw [beq_eq_false_iff_ne];omega
 have eu:(op == 27)=false:=by rw [beq_eq_false_iff_ne];omega
 have ez:(op == 63)=false:=by rw [beq_eq_false_iff_ne];omega
 have eB:(op == 64)=false:=by rw [beq_eq_false_iff_ne];omega
 have q2:(op == 2)=false:=by rw [beq_eq_false_iff_ne];omega
 have q3:(op == 3)=false:=by rw [beq_eq_false_iff_ne];omega
 have q4:(op == 4)=false:=by rw [beq_eq_false_iff_ne];omega
 have eC:(op == 12)=false:=by rw [beq_eq_false_iff_ne];omega
 have eD:(op == 13)=false:=by rw [beq_eq_false_iff_ne];omega
 have eH:(op == 14)=false:=by rw [beq_eq_false_iff_ne];omega
 have q16:(op == 16)=false:=by rw [beq_eq_false_iff_ne];omega
 have eM:(op == 17)=false:=by rw [beq_eq_false_iff_ne];omega
 have eO:(op == 40)=false:=by rw [beq_eq_false_iff_ne];omega
 have eP:(op == 41)=false:=by rw [beq_eq_false_iff_ne];omega
 have eQ:(op == 65)=false:=by rw [beq_eq_false_iff_ne];omega
 have eT:(op == 66)=false:=by rw [beq_eq_false_iff_ne];omega
 have gp:(op == 42)=false:=by rw [beq_eq_false_iff_ne];omega
 have gq:(op == 43)=false:=by rw [beq_eq_false_iff_ne];omega
 have gu:(op == 56)=false:=by rw [beq_eq_false_iff_ne];omega
 have gy:(op == 57)=false:=by rw [beq_eq_false_iff_ne];omega
 have gz:(op == 67)=false:=by rw [beq_eq_false_iff_ne];omega
 have gA:(op == 68)=false:=by rw [beq_eq_false_iff_ne];omega
 have r32:decide (32<=op/\op<=36)=false:=decide_eq_false (by omega);have R32:=aj r32;clear r32;have bQ:decide (44<=op/\op<=55)=false:=decide_eq_false (by omega);have fP:=aj bQ;clear bQ;have bR:decide (58<=op/\op<=62)=false:=decide_eq_false (by omega);have gD:=aj bR;clear bR;have bS:decide (91<=op/\op<=102)=false:=decide_eq_false (by omega);have gN:=aj bS;clear bS;have bT:decide (139<=op/\op<=166)=false:=decide_eq_false (by omega);have gZ:=aj bT;clear bT;have bU:decide (168<=op/\op<=171)=false:=decide_eq_false (by omega);have iE:=aj bU;clear bU;have bV:decide (174<=op/\op<=191)=false:=decide_eq_false (by omega);have iT:=aj bV;clear bV;clear h;go_enter Tryz.func81,Tryz.ntmps81;go_wp2_with fail;refine (cA _ _).mono ?_;rintro e u ⟨rfl,rfl⟩;generalize aQ.sig op=t at *;go_wp2;go_ret;exact ⟨rfl,rfl⟩
theorem QO (op:Int) (w:World) (h:91<=op/\op<=102):Calls Tryz.prog 81 #[.int .i64 op] w fun e w'=>e=.returned (.int .i64 10)/\w'=w:=by
 have hs:=cz op;have hp:decide (0<(aQ.sig op).1)=false:=by exact decide_eq_false (fun hp=>by have:=hs.1 hp;omega)
 clear hs;have q0:(op == 0)=false:=by rw [beq_eq_false_iff_ne];omega
 have q1:(op == 1)=false:=by rw [beq_eq_false_iff_ne];omega
 have ed:(op == 15)=false:=by rw [beq_eq_false_iff_ne];omega
 have ek:(op == 26)=false:=by rw [beq_eq_false_iff_ne];omega
 have eu:(op == 27)=false:=by rw [beq_eq_false_iff_ne];omega
 have ez:(op == 63)=false:=by rw [beq_eq_false_iff_ne];omega
 have eB:(op == 64)=false:=by rw [beq_eq_false_iff_ne];omega
 have q2:(op == 2)=false:=by rw [beq_eq_false_iff_ne];omega
 have q3:(op == 3)=false:=by rw [beq_eq_false_iff_ne];omega
 have q4:(op == 4)=false:=by rw [beq_eq_false_iff_ne];omega
 have eC:(op == 12)=false:=by rw [beq_eq_false_iff_ne];omega
 have eD:(op == 13)=false:=by rw [beq_eq_false_iff_ne];omega
 have eH:(op == 14)=false:=by rw [beq_eq_false_iff_ne];omega
 have q16:(op == 16)=false:=by rw [beq_eq_false_iff_ne];omega
 have eM:(op == 17)=false:=by rw [beq_eq_false_iff_ne];omega
 have eO:(op == 40)=false:=by rw [beq_eq_false_iff_ne];omega
 have eP:(op == 41)=false:=by rw [beq_eq_false_iff_ne];omega
 have eQ:(op == 65)=false:=by rw [beq_eq_false_iff_ne];omega
 have eT:(op == 66)=false:=by rw [beq_eq_false_iff_ne];omega
 have gp:(op == 42)=false:=by rw [beq_eq_false_iff_ne];omega
 have gq:(op == 43)=false:=by rw [beq_eq_false_iff_ne];omega
 have gu:(op == 56)=false:=by rw [beq_eq_false_iff_ne];omega
 have gy:(op == 57)=false:=by rw [beq_eq_false_iff_ne];omega
 have gz:(op == 67)=false:=by rw [beq_eq_false_iff_ne];omega
 have gA:(op == 68)=false:=by rw [beq_eq_false_iff_ne];omega
 have r32:decide (32<=op/\op<=36)=false:=decide_eq_false (by omega);have R32:=aj r32;clear r32;have bQ:decide (44<=op/\op<=55)=false:=decide_eq_false (by omega);have fP:=aj bQ;clear bQ;have bR:decide (58<=op/\op<=62)=false:=decide_eq_false (by omega);have gD:=aj bR;clear bR;have bS:decide (91<=op/\op<=102)=true:=decide_eq_true (by omega);have gN:=aj bS;clear bS;have bT:decide (139<=op/\op<=166)=false:=decide_eq_false (by omega);have gZ:=aj bT;clear bT;have bU:decide (168<=op/\op<=171)=false:=decide_eq_false (by omega);have iE:=aj bU;clear bU;have bV:decide (174<=op/\op<=191)=false:=decide_eq_false (by omega);have iT:=aj bV;clear bV;clear h;go_enter Tryz.func81,Tryz.ntmps81;go_wp2_with fail;refine (cA _ _).mono ?_;rintro e u ⟨rfl,rfl⟩;generalize aQ.sig op=t at *;go_wp2_with fail;refine (aO _ _ _ _).mono ?_;rintro e u ⟨rfl,rfl⟩;rw [R32.out];go_wp2_with fail;refine (aO _ _ _ _).mono ?_;rintro e u ⟨rfl,rfl⟩;rw [fP.out];go_wp2_with fail;refine (aO _ _ _ _).mono ?_;rintro e u ⟨rfl,rfl⟩;rw [gD.out];go_wp2_with fail;refine (aO _ _ _ _).mono ?_;rintro e u ⟨rfl,rfl⟩;rw [gN.out];go_wp2;go_ret;exact ⟨rfl,rfl⟩
theorem QP (op:Int) (w:World) (h:103<=op/\op<=138):Calls Tryz.prog 81 #[.int .i64 op] w fun e w'=>e=.returned (.int .i64 1)/\w'=w:=by
 have hs:=cz op;have hp:decide (0<(aQ.sig op).1)=true:=by exact decide_eq_true (hs.2 (by omega))
 clear hs;have q0:(op == 0)=false:=by rw [beq_eq_false_iff_ne];omega
 have q1:(op == 1)=false:=by rw [beq_eq_false_iff_ne];omega
 have ed:(op == 15)=false:=by rw [beq_eq_false_iff_ne];omega
 have ek:(op == 26)=false:=by rw [beq_eq_false_iff_ne];omega
 have eu:(op == 27)=false:=by rw [beq_eq_false_iff_ne];omega
 have ez:(op == 63)=false:=by rw [beq_eq_false_iff_ne];omega
 have eB:(op == 64)=false:=by rw [beq_eq_false_iff_ne];omega
 have q2:(op == 2)=false:=by rw [beq_eq_false_iff_ne];omega
 have q3:(op == 3)=false:=by rw [beq_eq_false_iff_ne];omega
 have q4:(op == 4)=false:=by rw [beq_eq_false_iff_ne];omega
 have eC:(op == 12)=false:=by rw [beq_eq_false_iff_ne];omega
 have eD:(op == 13)=false:=by rw [beq_eq_false_iff_ne];omega
 have eH:(op == 14)=false:=by rw [beq_eq_false_iff_ne];omega
 have q16:(op == 16)=false:=by rw [beq_eq_false_iff_ne];omega
 have eM:(op == 17)=false:=by rw [beq_eq_false_iff_ne];omega
 have eO:(op == 40)=false:=by rw [beq_eq_false_iff_ne];omega
 have eP:(op == 41)=false:=by rw [beq_eq_false_iff_ne];omega
 have eQ:(op == 65)=false:=by rw [beq_eq_false_iff_ne];omega
 have eT:(op == 66)=false:=by rw [beq_eq_false_iff_ne];omega
 have gp:(op == 42)=false:=by rw [beq_eq_false_iff_ne];omega
 have gq:(op == 43)=false:=by rw [beq_eq_false_iff_ne];omega
 have gu:(op == 56)=false:=by rw [beq_eq_false_iff_ne];omega
 have gy:(op == 57)=false:=by rw [beq_eq_false_iff_ne];omega
 have gz:(op == 67)=false:=by rw [beq_eq_false_iff_ne];omega
 have gA:(op == 68)=false:=by rw [beq_eq_false_iff_ne];omega
 have r32:decide (32<=op/\op<=36)=false:=decide_eq_false (by omega);have R32:=aj r32;clear r32;have bQ:decide (44<=op/\op<=55)=false:=decide_eq_false (by omega);have fP:=aj bQ;clear bQ;have bR:decide (58<=op/\op<=62)=false:=decide_eq_false (by omega);have gD:=aj bR;clear bR;have bS:decide (91<=op/\op<=102)=false:=decide_eq_false (by omega);have gN:=aj bS;clear bS;have bT:decide (139<=op/\op<=166)=false:=decide_eq_false (by omega);have gZ:=aj bT;clear bT;have bU:decide (168<=op/\op<=171)=false:=decide_eq_false (by omega);have iE:=aj bU;clear bU;have bV:decide (174<=op/\op<=191)=false:=decide_eq_false (by omega);have iT:=aj bV;clear bV;clear h;go_enter Tryz.func81,Tryz.ntmps81;go_wp2_with fail;refine (cA _ _).mono ?_;rintro e u ⟨rfl,rfl⟩;generalize aQ.sig op=t at *;go_wp2;go_ret;exact ⟨rfl,rfl⟩
theorem QQ (op:Int) (w:World) (h:139<=op/\op<=166):Calls Tryz.prog 81 #[.int .i64 op] w fun e w'=>e=.returned (.int .i64 10)/\w'=w:=by
 have hs:=cz op;have hp:decide (0<(aQ.sig op).1)=false:=by exact decide_eq_false (fun hp=>by have:=hs.1 hp;omega)
 clear hs;have q0:(op == 0)=false:=by rw [beq_eq_false_iff_ne];omega
 have q1:(op == 1)=false:=by rw [beq_eq_false_iff_ne];omega
 have ed:(op == 15)=false:=by rw [beq_eq_false_iff_ne];omega
 have ek:(op == 26)=false:=by rw [beq_eq_false_iff_ne];omega
 have eu:(op == 27)=false:=by rw [beq_eq_false_iff_ne];omega
 have ez:(op == 63)=false:=by rw [beq_eq_false_iff_ne];omega
 have eB:(op == 64)=false:=by rw [beq_eq_false_iff_ne];omega
 have q2:(op == 2)=false:=by rw [beq_eq_false_iff_ne];omega
 have q3:(op == 3)=false:=by rw [beq_eq_false_iff_ne];omega
 have q4:(op == 4)=false:=by rw [beq_eq_false_iff_ne];omega
 have eC:(op == 12)=false:=by rw [beq_eq_false_iff_ne];omega
 have eD:(op == 13)=false:=by rw [beq_eq_false_iff_ne];omega
 have eH:(op == 14)=false:=by rw [beq_eq_false_iff_ne];omega
 have q16:(op == 16)=false:=by rw [beq_eq_false_iff_ne];omega
 have eM:(op == 17)=false:=by rw [beq_eq_false_iff_ne];omega
 have eO:(op == 40)=false:=by rw [beq_eq_false_iff_ne];omega
 have eP:(op == 41)=false:=by rw [beq_eq_false_iff_ne];omega
 have eQ:(op == 65)=false:=by rw [beq_eq_false_iff_ne];omega
 have eT:(op == 66)=false:=by rw [beq_eq_false_iff_ne];omega
 have gp:(op == 42)=false:=by rw [beq_eq_false_iff_ne];omega
 have gq:(op == 43)=false:=by rw [beq_eq_false_iff_ne];omega
 have gu:(op == 56)=false:=by rw [beq_eq_false_iff_ne];omega
 have gy:(op == 57)=false:=by rw [beq_eq_false_iff_ne];omega
 have gz:(op == 67)=false:=by rw [beq_eq_false_iff_ne];omega
 have gA:(op == 68)=false:=by rw [beq_eq_false_iff_ne];omega
 have r32:decide (32<=op/\op<=36)=false:=decide_eq_false (by omega);have R32:=aj r32;clear r32;have bQ:decide (44<=op/\op<=55)=false:=decide_eq_false (by omega);have fP:=aj bQ;clear bQ;have bR:decide (58<=op/\op<=62)=false:=decide_eq_false (by omega);have gD:=aj bR;clear bR;have bS:decide (91<=op/\op<=102)=false:=decide_eq_false (by omega);have gN:=aj bS;clear bS;have bT:decide (139<=op/\op<=166)=true:=decide_eq_true (by omega);have gZ:=aj bT;clear bT;have bU:decide (168<=op/\op<=171)=false:=decide_eq_false (by omega);have iE:=aj bU;clear bU;have bV:decide (174<=op/\op<=191)=false:=decide_eq_false (by omega);have iT:=aj bV;clear bV;clear h;go_enter Tryz.func81,Tryz.ntmps81;go_wp2_with fail;refine (cA _ _).mono ?_;rintro e u ⟨rfl,rfl⟩;generalize aQ.sig op=t at *;go_wp2_with fail;refine (aO _ _ _ _).mono ?_;rintro e u ⟨rfl,rfl⟩;rw [R32.out];go_wp2_with fail;refine (aO _ _ _ _).mono ?_;rintro e u ⟨rfl,rfl⟩;rw [fP.out];go_wp2_with fail;refine (aO _ _ _ _).mono ?_;rintro e u ⟨rfl,rfl⟩;rw [gD.out];go_wp2_with fail;refine (aO _ _ _ _).mono ?_;rintro e u ⟨rfl,rfl⟩;rw [gN.out];go_wp2_with fail;refine (aO _ _ _ _).mono ?_;rintro e u ⟨rfl,rfl⟩;rw [gZ.out];go_wp2;go_ret;exact ⟨rfl,rfl⟩
theorem QR (op:Int) (w:World) (h:167<=op/\op<=167):Calls Tryz.prog 81 #[.int .i64 op] w fun e w'=>e=.returned (.int .i64 1)/\w'=w:=by
 have hs:=cz op;have hp:decide (0<(aQ.sig op).1)=true:=by exact decide_eq_true (hs.2 (by omega))
 clear hs;obtain rfl:op=167:=by omega
 clear h;go_enter Tryz.func81,Tryz.ntmps81;go_wp2_with fail;refine (cA _ _).mono ?_;rintro e u ⟨rfl,rfl⟩;generalize aQ.sig 167=t at *;go_wp2;go_ret;exact ⟨rfl,rfl⟩
theorem QS (op:Int) (w:World) (h:168<=op/\op<=171):Calls Tryz.prog 81 #[.int .i64 op] w fun e w'=>e=.returned (.int .i64 10)/\w'=w:=by
 have hs:=cz op;have hp:decide (0<(aQ.sig op).1)=false:=by exact decide_eq_false (fun hp=>by have:=hs.1 hp;omega)
 clear hs;have q0:(op == 0)=false:=by rw [beq_eq_false_iff_ne];omega
 have q1:(op == 1)=false:=by rw [beq_eq_false_iff_ne];omega
 have ed:(op == 15)=false:=by rw [beq_eq_false_iff_ne];omega
 have ek:(op == 26)=false:=by rw [beq_eq_false_iff_ne];omega
 have eu:(op == 27)=false:=by rw [beq_eq_false_iff_ne];omega
 have ez:(op == 63)=false:=by rw [beq_eq_false_iff_ne];omega
 have eB:(op == 64)=false:=by rw [beq_eq_false_iff_ne];omega
 have q2:(op == 2)=false:=by rw [beq_eq_false_iff_ne];omega
 have q3:(op == 3)=false:=by rw [beq_eq_false_iff_ne];omega
 have q4:(op == 4)=false:=by rw [beq_eq_false_iff_ne];omega
 have eC:(op == 12)=false:=by rw [beq_eq_false_iff_ne];omega
 have eD:(op == 13)=false:=by rw [beq_eq_false_iff_ne];omega
 have eH:(op == 14)=false:=by rw [beq_eq_false_iff_ne];omega
 have q16:(op == 16)=false:=by rw [beq_eq_false_iff_ne];omega
 have eM:(op == 17)=false:=by rw [beq_eq_false_iff_ne];omega
 have eO:(op == 40)=false:=by rw [beq_eq_false_iff_ne];omega
 have eP:(op == 41)=false:=by rw [beq_eq_false_iff_ne];omega
 have eQ:(op == 65)=false:=by rw [beq_eq_false_iff_ne];omega
 have eT:(op == 66)=false:=by rw [beq_eq_false_iff_ne];omega
 have gp:(op == 42)=false:=by rw [beq_eq_false_iff_ne];omega
 have gq:(op == 43)=false:=by rw [beq_eq_false_iff_ne];omega
 have gu:(op == 56)=false:=by rw [beq_eq_false_iff_ne];omega
 have gy:(op == 57)=false:=by rw [beq_eq_false_iff_ne];omega
 have gz:(op == 67)=false:=by rw [beq_eq_false_iff_ne];omega
 have gA:(op == 68)=false:=by rw [beq_eq_false_iff_ne];omega
 have r32:decide (32<=op/\op<=36)=false:=decide_eq_false (by omega);have R32:=aj r32;clear r32;have bQ:decide (44<=op/\op<=55)=false:=decide_eq_false (by omega);have fP:=aj bQ;clear bQ;have bR:decide (58<=op/\op<=62)=false:=decide_eq_false (by omega);have gD:=aj bR;clear bR;have bS:decide (91<=op/\op<=102)=false:=decide_eq_false (by omega);have gN:=aj bS;clear bS;have bT:decide (139<=op/\op<=166)=false:=decide_eq_false (by omega);have gZ:=aj bT;clear bT;have bU:decide (168<=op/\op<=171)=true:=decide_eq_true (by omega);have iE:=aj bU;clear bU;have bV:decide (174<=op/\op<=191)=false:=decide_eq_false (by omega);have iT:=aj bV;clear bV;clear h;go_enter Tryz.func81,Tryz.ntmps81;go_wp2_with fail;refine (cA _ _).mono ?_;rintro e u ⟨rfl,rfl⟩;generalize aQ.sig op=t at *;go_wp2_with fail;refine (aO _ _ _ _).mono ?_;rintro e u ⟨rfl,rfl⟩;rw [R32.out];go_wp2_with fail;refine (aO _ _ _ _).mono ?_;rintro e u ⟨rfl,rfl⟩;rw [fP.out];go_wp2_with fail;refine (aO _ _ _ _).mono ?_;rintro e u ⟨rfl,rfl⟩;rw [gD.out];go_wp2_with fail;refine (aO _ _ _ _).mono ?_;rintro e u ⟨rfl,rfl⟩;rw [gN.out];go_wp2_with fail;refine (aO _ _ _ _).mono ?_;rintro e u ⟨rfl,rfl⟩;rw [gZ.out];go_wp2_with fail;refine (aO _ _ _ _).mono ?_;rintro e u ⟨rfl,rfl⟩;rw [iE.out];go_wp2;go_ret;exact ⟨rfl,rfl⟩
theorem QT (op:Int) (w:World) (h:172<=op/\op<=173):Calls Tryz.prog 81 #[.int .i64 op] w fun e w'=>e=.returned (.int .i64 1)/\w'=w:=by
 have hs:=cz op;have hp:decide (0<(aQ.sig op).1)=true:=by exact decide_eq_true (hs.2 (by omega))
 clear hs;have q0:(op == 0)=false:=by rw [beq_eq_false_iff_ne];omega
 have q1:(op == 1)=false:=by rw [beq_eq_false_iff_ne];omega
 have ed:(op == 15)=false:=by rw [beq_eq_false_iff_ne];omega
 have ek:(op == 26)=false:=by rw [beq_eq_false_iff_ne];omega
 have eu:(op == 27)=false:=by rw [beq_eq_false_iff_ne];omega
 have ez:(op == 63)=false:=by rw [beq_eq_false_iff_ne];omega
 have eB:(op == 64)=false:=by rw [beq_eq_false_iff_ne];omega
 have q2:(op == 2)=false:=by rw [beq_eq_false_iff_ne];omega
 have q3:(op == 3)=false:=by rw [beq_eq_false_iff_ne];omega
 have q4:(op == 4)=false:=by rw [beq_eq_false_iff_ne];omega
 have eC:(op == 12)=false:=by rw [beq_eq_false_iff_ne];omega
 have eD:(op == 13)=false:=by rw [beq_eq_false_iff_ne];omega
 have eH:(op == 14)=false:=by rw [beq_eq_false_iff_ne];omega
 have q16:(op == 16)=false:=by rw [beq_eq_false_iff_ne];omega
 have eM:(op == 17)=false:=by rw [beq_eq_false_iff_ne];omega
 have eO:(op == 40)=false:=by rw [beq_eq_false_iff_ne];omega
 have eP:(op == 41)=false:=by rw [beq_eq_false_iff_ne];omega
 have eQ:(op == 65)=false:=by rw [beq_eq_false_iff_ne];omega
 have eT:(op == 66)=false:=by rw [beq_eq_false_iff_ne];omega
 have gp:(op == 42)=false:=by rw [beq_eq_false_iff_ne];omega
 have gq:(op == 43)=false:=by rw [beq_eq_false_iff_ne];omega
 have gu:(op == 56)=false:=by rw [beq_eq_false_iff_ne];omega
 have gy:(op == 57)=false:=by rw [beq_eq_false_iff_ne];omega
 have gz:(op == 67)=false:=by rw [beq_eq_false_iff_ne];omega
 have gA:(op == 68)=false:=by rw [beq_eq_false_iff_ne];omega
 have r32:decide (32<=op/\op<=36)=false:=decide_eq_false (by omega);have R32:=aj r32;clear r32;have bQ:decide (44<=op/\op<=55)=false:=decide_eq_false (by omega);have fP:=aj bQ;clear bQ;have bR:decide (58<=op/\op<=62)=false:=decide_eq_false (by omega);have gD:=aj bR;clear bR;have bS:decide (91<=op/\op<=102)=false:=decide_eq_false (by omega);have gN:=aj bS;clear bS;have bT:decide (139<=op/\op<=166)=false:=decide_eq_false (by omega);have gZ:=aj bT;clear bT;have bU:decide (168<=op/\op<=171)=false:=decide_eq_false (by omega);have iE:=aj bU;clear bU;have bV:decide (174<=op/\op<=191)=false:=decide_eq_false (by omega);have iT:=aj bV;clear bV;clear h;go_enter Tryz.func81,Tryz.ntmps81;go_wp2_with fail;refine (cA _ _).mono ?_;rintro e u ⟨rfl,rfl⟩;generalize aQ.sig op=t at *;go_wp2;go_ret;exact ⟨rfl,rfl⟩
theorem QU (op:Int) (w:World) (h:174<=op/\op<=191):Calls Tryz.prog 81 #[.int .i64 op] w fun e w'=>e=.returned (.int .i64 10)/\w'=w:=by
 have hs:=cz op;have hp:decide (0<(aQ.sig op).1)=false:=by exact decide_eq_false (fun hp=>by have:=hs.1 hp;omega)
 clear hs;have q0:(op == 0)=false:=by rw [beq_eq_false_iff_ne];omega
 have q1:(op == 1)=false:=by rw [beq_eq_false_iff_ne];omega
 have ed:(op == 15)=false:=by rw [beq_eq_false_iff_ne];omega
 have ek:(op == 26)=false:=by rw [beq_eq_false_iff_ne];omega
 have eu:(op == 27)=false:=by rw [beq_eq_false_iff_ne];omega
 have ez:(op == 63)=false:=by rw [beq_eq_false_iff_ne];omega
 have eB:(op == 64)=false:=by rw [beq_eq_false_iff_ne];omega
 have q2:(op == 2)=false:=by rw [beq_eq_false_iff_ne];omega
 have q3:(op == 3)=false:=by rw [beq_eq_false_iff_ne];omega
 have q4:(op == 4)=false:=by rw [beq_eq_false_iff_ne];omega
 have eC:(op == 12)=false:=by rw [beq_eq_false_iff_ne];omega
 have eD:(op == 13)=false:=by rw [beq_eq_false_iff_ne];omega
 have eH:(op == 14)=false:=by rw [beq_eq_false_iff_ne];omega
 have q16:(op == 16)=false:=by rw [beq_eq_false_iff_ne];omega
 have eM:(op == 17)=false:=by rw [beq_eq_false_iff_ne];omega
 have eO:(op == 40)=false:=by rw [beq_eq_false_iff_ne];omega
 have eP:(op == 41)=false:=by rw [beq_eq_false_iff_ne];omega
 have eQ:(op == 65)=false:=by rw [beq_eq_false_iff_ne];omega
 have eT:(op == 66)=false:=by rw [beq_eq_false_iff_ne];omega
 have gp:(op == 42)=false:=by rw [beq_eq_false_iff_ne];omega
 have gq:(op == 43)=false:=by rw [beq_eq_false_iff_ne];omega
 have gu:(op == 56)=false:=by rw [beq_eq_false_iff_ne];omega
 have gy:(op == 57)=false:=by rw [beq_eq_false_iff_ne];omega
 have gz:(op == 67)=false:=by rw [beq_eq_false_iff_ne];omega
 have gA:(op == 68)=false:=by rw [beq_eq_false_iff_ne];omega
 have r32:decide (32<=op/\op<=36)=false:=decide_eq_false (by omega);have R32:=aj r32;clear r32;have bQ:decide (44<=op/\op<=55)=false:=decide_eq_false (by omega);have fP:=aj bQ;clear bQ;have bR:decide (58<=op/\op<=62)=false:=decide_eq_false (by omega);have gD:=aj bR;clear bR;have bS:decide (91<=op/\op<=102)=false:=decide_eq_false (by omega);have gN:=aj bS;clear bS;have bT:decide (139<=op/\op<=166)=false:=decide_eq_false (by omega);have gZ:=aj bT;clear bT;have bU:decide (168<=op/\op<=171)=false:=decide_eq_false (by omega);have iE:=aj bU;clear bU;have bV:decide (174<=op/\op<=191)=true:=decide_eq_true (by omega);have iT:=aj bV;clear bV;clear h;go_enter Tryz.func81,Tryz.ntmps81;go_wp2_with fail;refine (cA _ _).mono ?_;rintro e u ⟨rfl,rfl⟩;generalize aQ.sig op=t at *;go_wp2_with fail;refine (aO _ _ _ _).mono ?_;rintro e u ⟨rfl,rfl⟩;rw [R32.out];go_wp2_with fail;refine (aO _ _ _ _).mono ?_;rintro e u ⟨rfl,rfl⟩;rw [fP.out];go_wp2_with fail;refine (aO _ _ _ _).mono ?_;rintro e u ⟨rfl,rfl⟩;rw [gD.out];go_wp2_with fail;refine (aO _ _ _ _).mono ?_;rintro e u ⟨rfl,rfl⟩;rw [gN.out];go_wp2_with fail;refine (aO _ _ _ _).mono ?_;rintro e u ⟨rfl,rfl⟩;rw [gZ.out];go_wp2_with fail;refine (aO _ _ _ _).mono ?_;rintro e u ⟨rfl,rfl⟩;rw [iE.out];go_wp2_with fail;refine (aO _ _ _ _).mono ?_;rintro e u ⟨rfl,rfl⟩;rw [iT.out];go_wp2;go_ret;exact ⟨rfl,rfl⟩
theorem QV (op:Int) (w:World) (h:192<=op):Calls Tryz.prog 81 #[.int .i64 op] w fun e w'=>e=.returned (.int .i64 0)/\w'=w:=by
 have hs:=cz op;have hp:decide (0<(aQ.sig op).1)=false:=by exact decide_eq_false (fun hp=>by have:=hs.1 hp;omega)
 clear hs;have q0:(op == 0)=false:=by rw [beq_eq_false_iff_ne];omega
 have q1:(op == 1)=false:=by rw [beq_eq_false_iff_ne];omega
 have ed:(op == 15)=false:=by rw [beq_eq_false_iff_ne];omega
 have ek:(op == 26)=false:=by rw [beq_eq_false_iff_ne];omega
 have eu:(op == 27)=false:=by rw [beq_eq_false_iff_ne];omega
 have ez:(op == 63)=false:=by rw [beq_eq_false_iff_ne];omega
 have eB:(op == 64)=false:=by rw [beq_eq_false_iff_ne];omega
 have q2:(op == 2)=false:=by rw [beq_eq_false_iff_ne];omega
 have q3:(op == 3)=false:=by rw [beq_eq_false_iff_ne];omega
 have q4:(op == 4)=false:=by rw [beq_eq_false_iff_ne];omega
 have eC:(op == 12)=false:=by rw [beq_eq_false_iff_ne];omega
 have eD:(op == 13)=false:=by rw [beq_eq_false_iff_ne];omega
 have eH:(op == 14)=false:=by rw [beq_eq_false_iff_ne];omega
 have q16:(op == 16)=false:=by rw [beq_eq_false_iff_ne];omega
 have eM:(op == 17)=false:=by rw [beq_eq_false_iff_ne];omega
 have eO:(op == 40)=false:=by rw [beq_eq_false_iff_ne];omega
 have eP:(op == 41)=false:=by rw [beq_eq_false_iff_ne];omega
 have eQ:(op == 65)=false:=by rw [beq_eq_false_iff_ne];omega
 have eT:(op == 66)=false:=by rw [beq_eq_false_iff_ne];omega
 have gp:(op == 42)=false:=by rw [beq_eq_false_iff_ne];omega
 have gq:(op == 43)=false:=by rw [beq_eq_false_iff_ne];omega
 have gu:(op == 56)=false:=by rw [beq_eq_false_iff_ne];omega
 have gy:(op == 57)=false:=by rw [beq_eq_false_iff_ne];omega
 have gz:(op == 67)=false:=by rw [beq_eq_false_iff_ne];omega
 have gA:(op == 68)=false:=by rw [beq_eq_false_iff_ne];omega
 have r32:decide (32<=op/\op<=36)=false:=decide_eq_false (by omega);have R32:=aj r32;clear r32;have bQ:decide (44<=op/\op<=55)=false:=decide_eq_false (by omega);have fP:=aj bQ;clear bQ;have bR:decide (58<=op/\op<=62)=false:=decide_eq_false (by omega);have gD:=aj bR;clear bR;have bS:decide (91<=op/\op<=102)=false:=decide_eq_false (by omega);have gN:=aj bS;clear bS;have bT:decide (139<=op/\op<=166)=false:=decide_eq_false (by omega);have gZ:=aj bT;clear bT;have bU:decide (168<=op/\op<=171)=false:=decide_eq_false (by omega);have iE:=aj bU;clear bU;have bV:decide (174<=op/\op<=191)=false:=decide_eq_false (by omega);have iT:=aj bV;clear bV;clear h;go_enter Tryz.func81,Tryz.ntmps81;go_wp2_with fail;refine (cA _ _).mono ?_;rintro e u ⟨rfl,rfl⟩;generalize aQ.sig op=t at *;go_wp2_with fail;refine (aO _ _ _ _).mono ?_;rintro e u ⟨rfl,rfl⟩;rw [R32.out];go_wp2_with fail;refine (aO _ _ _ _).mono ?_;rintro e u ⟨rfl,rfl⟩;rw [fP.out];go_wp2_with fail;refine (aO _ _ _ _).mono ?_;rintro e u ⟨rfl,rfl⟩;rw [gD.out];go_wp2_with fail;refine (aO _ _ _ _).mono ?_;rintro e u ⟨rfl,rfl⟩;rw [gN.out];go_wp2_with fail;refine (aO _ _ _ _).mono ?_;rintro e u ⟨rfl,rfl⟩;rw [gZ.out];go_wp2_with fail;refine (aO _ _ _ _).mono ?_;rintro e u ⟨rfl,rfl⟩;rw [iE.out];go_wp2_with fail;refine (aO _ _ _ _).mono ?_;rintro e u ⟨rfl,rfl⟩;rw [iT.out];go_wp2;go_ret;exact ⟨rfl,rfl⟩
theorem mh (op:Int) (w:World):Calls Tryz.prog 81 #[.int .i64 op] w fun e w'=>e=.returned (.int .i64 (form op))/\w'=w:=by
 by_cases c0:op<=-1
 ·have e:form op=0:=by
   unfold form
   repeat first|rw [if_neg (by omega)]|rw [if_pos (by omega)]
  rw [e];exact Qa op w (by omega)
 by_cases c1:op<=0
 ·have e:form op=1:=by
   unfold form
   repeat first|rw [if_neg (by omega)]|rw [if_pos (by omega)]
  rw [e];exact Qb op w (by omega)
 by_cases c2:op<=1
 ·have e:form op=1:=by
   unfold form
   repeat first|rw [if_neg (by omega)]|rw [if_pos (by omega)]
  rw [e];exact Qc op w (by omega)
 by_cases c3:op<=2
 ·have e:form op=2:=by
   unfold form
   repeat first|rw [if_neg (by omega)]|rw [if_pos (by omega)]
  rw [e];exact Qd op w (by omega)
 by_cases c4:op<=3
 ·have e:form op=2:=by
   unfold form
   repeat first|rw [if_neg (by omega)]|rw [if_pos (by omega)]
  rw [e];exact Qe op w (by omega)
 by_cases c5:op<=4
 ·have e:form op=3:=by
   unfold form
   repeat first|rw [if_neg (by omega)]|rw [if_pos (by omega)]
  rw [e];exact Qf op w (by omega)
 by_cases c6:op<=11
 ·have e:form op=0:=by
   unfold form
   repeat first|rw [if_neg (by omega)]|rw [if_pos (by omega)]
  rw [e];exact Qg op w (by omega)
 by_cases c7:op<=12
 ·have e:form op=4:=by
   unfold form
   repeat first|rw [if_neg (by omega)]|rw [if_pos (by omega)]
  rw [e];exact Qh op w (by omega)
 by_cases c8:op<=13
 ·have e:form op=4:=by
   unfold form
   repeat first|rw [if_neg (by omega)]|rw [if_pos (by omega)]
  rw [e];exact Qi op w (by omega)
 by_cases c9:op<=14
 ·have e:form op=5:=by
   unfold form
   repeat first|rw [if_neg (by omega)]|rw [if_pos (by omega)]
  rw [e];exact Qj op w (by omega)
 by_cases c10:op<=15
 ·have e:form op=1:=by
   unfold form
   repeat first|rw [if_neg (by omega)]|rw [if_pos (by omega)]
  rw [e];exact Qk op w (by omega)
 by_cases c11:op<=16
 ·have e:form op=6:=by
   unfold form
   repeat first|rw [if_neg (by omega)]|rw [if_pos (by omega)]
  rw [e];exact Ql op w (by omega)
 by_cases c12:op<=17
 ·have e:form op=7:=by
   unfold form
   repeat first|rw [if_neg (by omega)]|rw [if_pos (by omega)]
  rw [e];exact Qm op w (by omega)
 by_cases c13:op<=25
 ·have e:form op=0:=by
   unfold form
   repeat first|rw [if_neg (by omega)]|rw [if_pos (by omega)]
  rw [e];exact Qn op w (by omega)
 by_cases c14:op<=26
 ·have e:form op=1:=by
   unfold form
   repeat first|rw [if_neg (by omega)]|rw [if_pos (by omega)]
  rw [e];exact RA op w (by omega)
 by_cases c15:op<=27
 ·have e:form op=1:=by
   unfold form
   repeat first|rw [if_neg (by omega)]|rw [if_pos (by omega)]
  rw [e];exact RB op w (by omega)
 by_cases c16:op<=31
 ·have e:form op=0:=by
   unfold form
   repeat first|rw [if_neg (by omega)]|rw [if_pos (by omega)]
  rw [e];exact RE op w (by omega)
 by_cases c17:op<=36
 ·have e:form op=6:=by
   unfold form
   repeat first|rw [if_neg (by omega)]|rw [if_pos (by omega)]
  rw [e];exact RF op w (by omega)
 by_cases c18:op<=39
 ·have e:form op=0:=by
   unfold form
   repeat first|rw [if_neg (by omega)]|rw [if_pos (by omega)]
  rw [e];exact RG op w (by omega)
 by_cases c19:op<=40
 ·have e:form op=8:=by
   unfold form
   repeat first|rw [if_neg (by omega)]|rw [if_pos (by omega)]
  rw [e];exact RH op w (by omega)
 by_cases LX:op<=41
 ·have e:form op=8:=by
   unfold form
   repeat first|rw [if_neg (by omega)]|rw [if_pos (by omega)]
  rw [e];exact RI op w (by omega)
 by_cases c21:op<=42
 ·have e:form op=10:=by
   unfold form
   repeat first|rw [if_neg (by omega)]|rw [if_pos (by omega)]
  rw [e];exact RJ op w (by omega)
 by_cases qR:op<=43
 ·have e:form op=10:=by
   unfold form
   repeat first|rw [if_neg (by omega)]|rw [if_pos (by omega)]
  rw [e];exact RL op w (by omega)
 by_cases AP:op<=55
 ·have e:form op=8:=by
   unfold form
   repeat first|rw [if_neg (by omega)]|rw [if_pos (by omega)]
  rw [e];exact RN op w (by omega)
 by_cases Cn:op<=56
 ·have e:form op=10:=by
   unfold form
   repeat first|rw [if_neg (by omega)]|rw [if_pos (by omega)]
  rw [e];exact RO op w (by omega)
 by_cases BS:op<=57
 ·have e:form op=10:=by
   unfold form
   repeat first|rw [if_neg (by omega)]|rw [if_pos (by omega)]
  rw [e];exact RP op w (by omega)
 by_cases vP:op<=62
 ·have e:form op=8:=by
   unfold form
   repeat first|rw [if_neg (by omega)]|rw [if_pos (by omega)]
  rw [e];exact RQ op w (by omega)
 by_cases Mc:op<=63
 ·have e:form op=1:=by
   unfold form
   repeat first|rw [if_neg (by omega)]|rw [if_pos (by omega)]
  rw [e];exact RU op w (by omega)
 by_cases Me:op<=64
 ·have e:form op=1:=by
   unfold form
   repeat first|rw [if_neg (by omega)]|rw [if_pos (by omega)]
  rw [e];exact QI op w (by omega)
 by_cases Mg:op<=65
 ·have e:form op=9:=by
   unfold form
   repeat first|rw [if_neg (by omega)]|rw [if_pos (by omega)]
  rw [e];exact QJ op w (by omega)
 by_cases Mi:op<=66
 ·have e:form op=9:=by
   unfold form
   repeat first|rw [if_neg (by omega)]|rw [if_pos (by omega)]
  rw [e];exact QK op w (by omega)
 by_cases Mk:op<=67
 ·have e:form op=10:=by
   unfold form
   repeat first|rw [if_neg (by omega)]|rw [if_pos (by omega)]
  rw [e];exact QL op w (by omega)
 by_cases c32:op<=68
 ·have e:form op=10:=by
   unfold form
   repeat first|rw [if_neg (by omega)]|rw [if_pos (by omega)]
  rw [e];exact QM op w (by omega)
 by_cases Mo:op<=90
 ·have e:form op=1:=by
   unfold form
   repeat first|rw [if_neg (by omega)]|rw [if_pos (by omega)]
  rw [e];exact QN op w (by omega)
 by_cases Mr:op<=102
 ·have e:form op=10:=by
   unfold form
   repeat first|rw [if_neg (by omega)]|rw [if_pos (by omega)]
  rw [e];exact QO op w (by omega)
 by_cases Mt:op<=138
 ·have e:form op=1:=by
   unfold form
   repeat first|rw [if_neg (by omega)]|rw [if_pos (by omega)]
  rw [e];exact QP op w (by omega)
 by_cases Mw:op<=166
 ·have e:form op=10:=by
   unfold form
   repeat first|rw [if_neg (by omega)]|rw [if_pos (by omega)]
  rw [e];exact QQ op w (by omega)
 by_cases My:op<=167
 ·have e:form op=1:=by
   unfold form
   repeat first|rw [if_neg (by omega)]|rw [if_pos (by omega)]
  rw [e];exact QR op w (by omega)
 by_cases MC:op<=171
 ·have e:form op=10:=by
   unfold form
   repeat first|rw [if_neg (by omega)]|rw [if_pos (by omega)]
  rw [e];exact QS op w (by omega)
 by_cases MF:op<=173
 ·have e:form op=1:=by
   unfold form
   repeat first|rw [if_neg (by omega)]|rw [if_pos (by omega)]
  rw [e];exact QT op w (by omega)
 by_cases MI:op<=191
 ·have e:form op=10:=by
   unfold form
   repeat first|rw [if_neg (by omega)]|rw [if_pos (by omega)]
  rw [e];exact QU op w (by omega)
 have e:form op=0:=by
  unfold form
  repeat rw [if_neg (by omega)]
 rw [e];exact QV op w (by omega)
end Go.Proofs.YtegboefdolfdgaaGreatDoor
