/- Texts that the claim needs. -/
import Derived.Test.YtegboefdolfdgaaGreatDoorQDM0
import Derived.Test.YtegboefdolfdgaaGreatDoorQDM9
import Derived.Test.YtegboefdolfdgaaGreatDoorQDM10
namespace Go.Proofs.YtegboefdolfdgaaGreatDoor
open Go.RowKit aA
set_option linter.unusedVariables false
set_option maxHeartbeats 1000000
theorem Q9 (op:Int) (w:World) (h:64<=op/\op<=64):Calls Tryz.prog 81 #[.int .i64 op] w fun e w'=>e=.returned (.int .i64 1)/\w'=w:=by
 have hs:=cB op;have hp:decide (0<(aQ.sig op).1)=false:=by exact decide_eq_false (fun hp=>by have:=hs.1 hp;omega)
 clear hs;obtain rfl:op=64:=by omega
 clear h;go_enter Tryz.func81,Tryz.ntmps81;go_wp2_with fail;refine (cE _ _).mono ?_;rintro e u ⟨rfl,rfl⟩;generalize aQ.sig 64=t at *;go_wp2;go_ret;exact ⟨rfl,rfl⟩
theorem Ra (op:Int) (w:World) (h:65<=op/\op<=65):Calls Tryz.prog 81 #[.int .i64 op] w fun e w'=>e=.returned (.int .i64 9)/\w'=w:=by
 have hs:=cB op;have hp:decide (0<(aQ.sig op).1)=false:=by exact decide_eq_false (fun hp=>by have:=hs.1 hp;omega)
 clear hs;obtain rfl:op=65:=by omega
 clear h;go_enter Tryz.func81,Tryz.ntmps81;go_wp2_with fail;refine (cE _ _).mono ?_;rintro e u ⟨rfl,rfl⟩;generalize aQ.sig 65=t at *;go_wp2_with fail;refine (aO _ _ _ _).mono ?_;rintro e u ⟨rfl,rfl⟩;rw [show decide ((32:Int)<=65/\(65:Int)<=36)=false by decide];go_wp2_with fail;refine (aO _ _ _ _).mono ?_;rintro e u ⟨rfl,rfl⟩;rw [show decide ((44:Int)<=65/\(65:Int)<=55)=false by decide];go_wp2_with fail;refine (aO _ _ _ _).mono ?_;rintro e u ⟨rfl,rfl⟩;rw [show decide ((58:Int)<=65/\(65:Int)<=62)=false by decide];go_wp2;go_ret;exact ⟨rfl,rfl⟩
theorem Rb (op:Int) (w:World) (h:66<=op/\op<=66):Calls Tryz.prog 81 #[.int .i64 op] w fun e w'=>e=.returned (.int .i64 9)/\w'=w:=by
 have hs:=cB op;have hp:decide (0<(aQ.sig op).1)=false:=by exact decide_eq_false (fun hp=>by have:=hs.1 hp;omega)
 clear hs;obtain rfl:op=66:=by omega
 clear h;go_enter Tryz.func81,Tryz.ntmps81;go_wp2_with fail;refine (cE _ _).mono ?_;rintro e u ⟨rfl,rfl⟩;generalize aQ.sig 66=t at *;go_wp2_with fail;refine (aO _ _ _ _).mono ?_;rintro e u ⟨rfl,rfl⟩;rw [show decide ((32:Int)<=66/\(66:Int)<=36)=false by decide];go_wp2_with fail;refine (aO _ _ _ _).mono ?_;rintro e u ⟨rfl,rfl⟩;rw [show decide ((44:Int)<=66/\(66:Int)<=55)=false by decide];go_wp2_with fail;refine (aO _ _ _ _).mono ?_;rintro e u ⟨rfl,rfl⟩;rw [show decide ((58:Int)<=66/\(66:Int)<=62)=false by decide];go_wp2;go_ret;exact ⟨rfl,rfl⟩
theorem Rc (op:Int) (w:World) (h:67<=op/\op<=67):Calls Tryz.prog 81 #[.int .i64 op] w fun e w'=>e=.returned (.int .i64 10)/\w'=w:=by
 have hs:=cB op;have hp:decide (0<(aQ.sig op).1)=false:=by exact decide_eq_false (fun hp=>by have:=hs.1 hp;omega)
 clear hs;obtain rfl:op=67:=by omega
 clear h;go_enter Tryz.func81,Tryz.ntmps81;go_wp2_with fail;refine (cE _ _).mono ?_;rintro e u ⟨rfl,rfl⟩;generalize aQ.sig 67=t at *;go_wp2_with fail;refine (aO _ _ _ _).mono ?_;rintro e u ⟨rfl,rfl⟩;rw [show decide ((32:Int)<=67/\(67:Int)<=36)=false by decide];go_wp2_with fail;refine (aO _ _ _ _).mono ?_;rintro e u ⟨rfl,rfl⟩;rw [show decide ((44:Int)<=67/\(67:Int)<=55)=false by decide];go_wp2_with fail;refine (aO _ _ _ _).mono ?_;rintro e u ⟨rfl,rfl⟩;rw [show decide ((58:Int)<=67/\(67:Int)<=62)=false by decide];go_wp2;go_ret;exact ⟨rfl,rfl⟩
theorem Re (op:Int) (w:World) (h:68<=op/\op<=68):Calls Tryz.prog 81 #[.int .i64 op] w fun e w'=>e=.returned (.int .i64 10)/\w'=w:=by
 have hs:=cB op;have hp:decide (0<(aQ.sig op).1)=false:=by exact decide_eq_false (fun hp=>by have:=hs.1 hp;omega)
 clear hs;obtain rfl:op=68:=by omega
 clear h;go_enter Tryz.func81,Tryz.ntmps81;go_wp2_with fail;refine (cE _ _).mono ?_;rintro e u ⟨rfl,rfl⟩;generalize aQ.sig 68=t at *;go_wp2_with fail;refine (aO _ _ _ _).mono ?_;rintro e u ⟨rfl,rfl⟩;rw [show decide ((32:Int)<=68/\(68:Int)<=36)=false by decide];go_wp2_with fail;refine (aO _ _ _ _).mono ?_;rintro e u ⟨rfl,rfl⟩;rw [show decide ((44:Int)<=68/\(68:Int)<=55)=false by decide];go_wp2_with fail;refine (aO _ _ _ _).mono ?_;rintro e u ⟨rfl,rfl⟩;rw [show decide ((58:Int)<=68/\(68:Int)<=62)=false by decide];go_wp2;go_ret;exact ⟨rfl,rfl⟩
theorem Rf (op:Int) (w:World) (h:69<=op/\op<=90):Calls Tryz.prog 81 #[.int .i64 op] w fun e w'=>e=.returned (.int .i64 1)/\w'=w:=by
 have hs:=cB op;have hp:decide (0<(aQ.sig op).1)=true:=by exact decide_eq_true (hs.2 (by omega))
 clear hs;have q0:(op == 0)=false:=by rw [beq_eq_false_iff_ne];omega
 have q1:(op == 1)=false:=by rw [beq_eq_false_iff_ne];omega
 have ed:(op == 15)=false:=by rw [beq_eq_false_iff_ne];omega
 have ek:(op == 26)=false:=by rw [beq_eq_false_iff_ne];omega
 have eu:(op == 27)=false:=by rw [beq_eq_false_iff_ne];omega
 have ez:(op == 63)=false:=by rw [beq_eq_false_iff_ne];omega
 have eB:(op == 64)=false:=by rw [beq_eq_false_iff_ne];omega
 have q2:(op == 2)=false:=by rw [beq_eq_false_iff_ne];omega
 have q3:(op == 3)=false:=by rw [beq_eq_false_iff_ne];omega
 have q4:(op == 4)=false:=by rw [beq_eq_false_iff_ne];omega
 have eC:(op == 12)=false:=by rw [beq_eq_false_iff_ne];omega
 have eD:(op == 13)=false:=by rw [beq_eq_false_iff_ne];omega
 have eH:(op == 14)=false:=by rw [beq_eq_false_iff_ne];omega
 have q16:(op == 16)=false:=by rw [beq_eq_false_iff_ne];omega
 have eM:(op == 17)=false:=by rw [beq_eq_false_iff_ne];omega
 have eO:(op == 40)=false:=by rw [beq_eq_false_iff_ne];omega
 have eP:(op == 41)=false:=by rw [beq_eq_false_iff_ne];omega
 have eQ:(op == 65)=false:=by rw [beq_eq_false_iff_ne];omega
 have eT:(op == 66)=false:=by rw [beq_eq_false_iff_ne];omega
 have gq:(op == 42)=false:=by rw [beq_eq_false_iff_ne];omega
 have gu:(op == 43)=false:=by rw [beq_eq_false_iff_ne];omega
 have gy:(op == 56)=false:=by rw [beq_eq_false_iff_ne];omega
 have gz:(op == 57)=false:=by rw [beq_eq_false_iff_ne];omega
 have gA:(op == 67)=false:=by rw [beq_eq_false_iff_ne];omega
 have gD:(op == 68)=false:=by rw [beq_eq_false_iff_ne];omega
 have r32:decide (32<=op/\op<=36)=false:=decide_eq_false (by omega);have R32:=aj r32;clear r32;have bS:decide (44<=op/\op<=55)=false:=decide_eq_false (by omega);have fP:=aj bS;clear bS;have bT:decide (58<=op/\op<=62)=false:=decide_eq_false (by omega);have gF:=aj bT;clear bT;have bU:decide (91<=op/\op<=102)=false:=decide_eq_false (by omega);have gP:=aj bU;clear bU;have bV:decide (139<=op/\op<=166)=false:=decide_eq_false (by omega);have ia:=aj bV;clear bV;have bW:decide (168<=op/\op<=171)=false:=decide_eq_false (by omega);have iE:=aj bW;clear bW;have bX:decide (174<=op/\op<=191)=false:=decide_eq_false (by omega);have iT:=aj bX;clear bX;clear h;go_enter Tryz.func81,Tryz.ntmps81;go_wp2_with fail;refine (cE _ _).mono ?_;rintro e u ⟨rfl,rfl⟩;generalize aQ.sig op=t at *;go_wp2;go_ret;exact ⟨rfl,rfl⟩
theorem Rh (op:Int) (w:World) (h:91<=op/\op<=102):Calls Tryz.prog 81 #[.int .i64 op] w fun e w'=>e=.returned (.int .i64 10)/\w'=w:=by
 have hs:=cB op;have hp:decide (0<(aQ.sig op).1)=false:=by exact decide_eq_false (fun hp=>by have:=hs.1 hp;omega)
 clear hs;have q0:(op == 0)=false:=by rw [beq_eq_false_iff_ne];omega
 have q1:(op == 1)=false:=by rw [beq_eq_false_iff_ne];omega
 have ed:(op == 15)=false:=by rw [beq_eq_false_iff_ne];omega
 have ek:(op == 26)=false:=by rw [beq_eq_false_iff_ne];omega
 have eu:(op == 27)=false:=by rw [beq_eq_false_iff_ne];omega
 have ez:(op == 63)=false:=by rw [beq_eq_false_iff_ne];omega
 have eB:(op == 64)=false:=by rw [beq_eq_false_iff_ne];omega
 have q2:(op == 2)=false:=by rw [beq_eq_false_iff_ne];omega
 have q3:(op == 3)=false:=by rw [beq_eq_false_iff_ne];omega
 have q4:(op == 4)=false:=by rw [beq_eq_false_iff_ne];omega
 have eC:(op == 12)=false:=by rw [beq_eq_false_iff_ne];omega
 have eD:(op == 13)=false:=by rw [beq_eq_false_iff_ne];omega
 have eH:(op == 14)=false:=by rw [beq_eq_false_iff_ne];omega
 have q16:(op == 16)=false:=by rw [beq_eq_false_iff_ne];omega
 have eM:(op == 17)=false:=by rw [beq_eq_false_iff_ne];omega
 have eO:(op == 40)=false:=by rw [beq_eq_false_iff_ne];omega
 have eP:(op == 41)=false:=by rw [beq_eq_false_iff_ne];omega
 have eQ:(op == 65)=false:=by rw [beq_eq_false_iff_ne];omega
 have eT:(op == 66)=false:=by rw [beq_eq_false_iff_ne];omega
 have gq:(op == 42)=false:=by rw [beq_eq_false_iff_ne];omega
 have gu:(op == 43)=false:=by rw [beq_eq_false_iff_ne];omega
 have gy:(op == 56)=false:=by rw [beq_eq_false_iff_ne];omega
 have gz:(op == 57)=false:=by rw [beq_eq_false_iff_ne];omega
 have gA:(op == 67)=false:=by rw [beq_eq_false_iff_ne];omega
 have gD:(op == 68)=false:=by rw [beq_eq_false_iff_ne];omega
 have r32:decide (32<=op/\op<=36)=false:=decide_eq_false (by omega);have R32:=aj r32;clear r32;have bS:decide (44<=op/\op<=55)=false:=decide_eq_false (by omega);have fP:=aj bS;clear bS;have bT:decide (58<=op/\op<=62)=false:=decide_eq_false (by omega);have gF:=aj bT;clear bT;have bU:decide (91<=op/\op<=102)=true:=decide_eq_true (by omega);have gP:=aj bU;clear bU;have bV:decide (139<=op/\op<=166)=false:=decide_eq_false (by omega);have ia:=aj bV;clear bV;have bW:decide (168<=op/\op<=171)=false:=decide_eq_false (by omega);have iE:=aj bW;clear bW;have bX:decide (174<=op/\op<=191)=false:=decide_eq_false (by omega);have iT:=aj bX;clear bX;clear h;go_enter Tryz.func81,Tryz.ntmps81;go_wp2_with fail;refine (cE _ _).mono ?_;rintro e u ⟨rfl,rfl⟩;generalize aQ.sig op=t at *;go_wp2_with fail;refine (aO _ _ _ _).mono ?_;rintro e u ⟨rfl,rfl⟩;rw [R32.out];go_wp2_with fail;refine (aO _ _ _ _).mono ?_;rintro e u ⟨rfl,rfl⟩;rw [fP.out];go_wp2_with fail;refine (aO _ _ _ _).mono ?_;rintro e u ⟨rfl,rfl⟩;rw [gF.out];go_wp2_with fail;refine (aO _ _ _ _).mono ?_;rintro e u ⟨rfl,rfl⟩;rw [gP.out];go_wp2;go_ret;exact ⟨rfl,rfl⟩
theorem Ri (op:Int) (w:World) (h:103<=op/\op<=138):Calls Tryz.prog 81 #[.int .i64 op] w fun e w'=>e=.returned (.int .i64 1)/\w'=w:=by
 have hs:=cB op;have hp:decide (0<(aQ.sig op).1)=true:=by exact decide_eq_true (hs.2 (by omega))
 clear hs;have q0:(op == 0)=false:=by rw [beq_eq_false_iff_ne];omega
 have q1:(op == 1)=false:=by rw [beq_eq_false_iff_ne];omega
 have ed:(op == 15)=false:=by rw [beq_eq_false_iff_ne];omega
 have ek:(op == 26)=false:=by rw [beq_eq_false_iff_ne];omega
 have eu:(op == 27)=false:=by rw [beq_eq_false_iff_ne];omega
 have ez:(op == 63)=false:=by rw [beq_eq_false_iff_ne];omega
 have eB:(op == 64)=false:=by rw [beq_eq_false_iff_ne];omega
 have q2:(op == 2)=false:=by rw [beq_eq_false_iff_ne];omega
 have q3:(op == 3)=false:=by rw [beq_eq_false_iff_ne];omega
 have q4:(op == 4)=false:=by rw [beq_eq_false_iff_ne];omega
 have eC:(op == 12)=false:=by rw [beq_eq_false_iff_ne];omega
 have eD:(op == 13)=false:=by rw [beq_eq_false_iff_ne];omega
 have eH:(op == 14)=false:=by rw [beq_eq_false_iff_ne];omega
 have q16:(op == 16)=false:=by rw [beq_eq_false_iff_ne];omega
 have eM:(op == 17)=false:=by rw [beq_eq_false_iff_ne];omega
 have eO:(op == 40)=false:=by rw [beq_eq_false_iff_ne];omega
 have eP:(op == 41)=false:=by rw [beq_eq_false_iff_ne];omega
 have eQ:(op == 65)=false:=by rw [beq_eq_false_iff_ne];omega
 have eT:(op == 66)=false:=by rw [beq_eq_false_iff_ne];omega
 have gq:(op == 42)=false:=by rw [beq_eq_false_iff_ne];omega
 have gu:(op == 43)=false:=by rw [beq_eq_false_iff_ne];omega
 have gy:(op == 56)=false:=by rw [beq_eq_false_iff_ne];omega
 have gz:(op == 57)=false:=by rw [beq_eq_false_iff_ne];omega
 have gA:(op == 67)=false:=by rw [beq_eq_false_iff_ne];omega
 have gD:(op == 68)=false:=by rw [beq_eq_false_iff_ne];omega
 have r32:decide (32<=op/\op<=36)=false:=decide_eq_false (by omega);have R32:=aj r32;clear r32;have bS:decide (44<=op/\op<=55)=false:=decide_eq_false (by omega);have fP:=aj bS;clear bS;have bT:decide (58<=op/\op<=62)=false:=decide_eq_false (by omega);have gF:=aj bT;clear bT;have bU:decide (91<=op/\op<=102)=false:=decide_eq_false (by omega);have gP:=aj bU;clear bU;have bV:decide (139<=op/\op<=166)=false:=decide_eq_false (by omega);have ia:=aj bV;clear bV;have bW:decide (168<=op/\op<=171)=false:=decide_eq_false (by omega);have iE:=aj bW;clear bW;have bX:decide (174<=op/\op<=191)=false:=decide_eq_false (by omega);have iT:=aj bX;clear bX;clear h;go_enter Tryz.func81,Tryz.ntmps81;go_wp2_with fail;refine (cE _ _).mono ?_;rintro e u ⟨rfl,rfl⟩;generalize aQ.sig op=t at *;go_wp2;go_ret;exact ⟨rfl,rfl⟩
theorem Rj (op:Int) (w:World) (h:139<=op/\op<=166):Calls Tryz.prog 81 #[.int .i64 op] w fun e w'=>e=.returned (.int .i64 10)/\w'=w:=by
 have hs:=cB op;have hp:decide (0<(aQ.sig op).1)=false:=by exact decide_eq_false (fun hp=>by have:=hs.1 hp;omega)
 clear hs;have q0:(op == 0)=false:=by rw [beq_eq_false_iff_ne];omega
 have q1:(op == 1)=false:=by rw [beq_eq_false_iff_ne];omega
 have ed:(op == 15)=false:=by rw [beq_eq_false_iff_ne];omega
 have ek:(op == 26)=false:=by rw [beq_eq_false_iff_ne];omega
 have eu:(op == 27)=false:=by rw [beq_eq_false_iff_ne];omega
 have ez:(op == 63)=false:=by rw [beq_eq_false_iff_ne];omega
 have eB:(op == 64)=false:=by rw [beq_eq_false_iff_ne];omega
 have q2:(op == 2)=false:=by rw [beq_eq_false_iff_ne];omega
 have q3:(op == 3)=false:=by rw [beq_eq_false_iff_ne];omega
 have q4:(op == 4)=false:=by rw [beq_eq_false_iff_ne];omega
 have eC:(op == 12)=false:=by rw [beq_eq_false_iff_ne];omega
 have eD:(op == 13)=false:=by rw [beq_eq_false_iff_ne];omega
 have eH:(op == 14)=false:=by rw [beq_eq_false_iff_ne];omega
 have q16:(op == 16)=false:=by rw [beq_eq_false_iff_ne];omega
 have eM:(op == 17)=false:=by rw [beq_eq_false_iff_ne];omega
 have eO:(op == 40)=false:=by rw [beq_eq_false_iff_ne];omega
 have eP:(op == 41)=false:=by rw [beq_eq_false_iff_ne];omega
 have eQ:(op == 65)=false:=by rw [beq_eq_false_iff_ne];omega
 have eT:(op == 66)=false:=by rw [beq_eq_false_iff_ne];omega
 have gq:(op == 42)=false:=by rw [beq_eq_false_iff_ne];omega
 have gu:(op == 43)=false:=by rw [beq_eq_false_iff_ne];omega
 have gy:(op == 56)=false:=by rw [beq_eq_false_iff_ne];omega
 have gz:(op == 57)=false:=by rw [beq_eq_false_iff_ne];omega
 have gA:(op == 67)=false:=by rw [beq_eq_false_iff_ne];omega
 have gD:(op == 68)=false:=by rw [beq_eq_false_iff_ne];omega
 have r32:decide (32<=op/\op<=36)=false:=decide_eq_false (by omega);have R32:=aj r32;clear r32;have bS:decide (44<=op/\op<=55)=false:=decide_eq_false (by omega);have fP:=aj bS;clear bS;have bT:decide (58<=op/\op<=62)=false:=decide_eq_false (by omega);have gF:=aj bT;clear bT;have bU:decide (91<=op/\op<=102)=false:=decide_eq_false (by omega);have gP:=aj bU;clear bU;have bV:decide (139<=op/\op<=166)=true:=decide_eq_true (by omega);have ia:=aj bV;clear bV;have bW:decide (168<=op/\op<=171)=false:=decide_eq_false (by omega);have iE:=aj bW;clear bW;have bX:decide (174<=op/\op<=191)=false:=decide_eq_false (by omega);have iT:=aj bX;clear bX;clear h;go_enter Tryz.func81,Tryz.ntmps81;go_wp2_with fail;refine (cE _ _).mono ?_;rintro e u ⟨rfl,rfl⟩;generalize aQ.sig op=t at *;go_wp2_with fail;refine (aO _ _ _ _).mono ?_;rintro e u ⟨rfl,rfl⟩;rw [R32.out];go_wp2_with fail;refine (aO _ _ _ _).mono ?_;rintro e u ⟨rfl,rfl⟩;rw [fP.out];go_wp2_with fail;refine (aO _ _ _ _).mono ?_;rintro e u ⟨rfl,rfl⟩;rw [gF.out];go_wp2_with fail;refine (aO _ _ _ _).mono ?_;rintro e u ⟨rfl,rfl⟩;rw [gP.out];go_wp2_with fail;refine (aO _ _ _ _).mono ?_;rintro e u ⟨rfl,rfl⟩;rw [ia.out];go_wp2;go_ret;exact ⟨rfl,rfl⟩
theorem Rk (op:Int) (w:World) (h:167<=op/\op<=167):Calls Tryz.prog 81 #[.int .i64 op] w fun e w'=>e=.returned (.int .i64 1)/\w'=w:=by
 have hs:=cB op;have hp:decide (0<(aQ.sig op).1)=true:=by exact decide_eq_true (hs.2 (by omega))
 clear hs;obtain rfl:op=167:=by omega
 clear h;go_enter Tryz.func81,Tryz.ntmps81;go_wp2_with fail;refine (cE _ _).mono ?_;rintro e u ⟨rfl,rfl⟩;generalize aQ.sig 167=t at *;go_wp2;go_ret;exact ⟨rfl,rfl⟩
theorem Rl (op:Int) (w:World) (h:168<=op/\op<=171):Calls Tryz.prog 81 #[.int .i64 op] w fun e w'=>e=.returned (.int .i64 10)/\w'=w:=by
 have hs:=cB op;have hp:decide (0<(aQ.sig op).1)=false:=by exact decide_eq_false (fun hp=>by have:=hs.1 hp;omega)
 clear hs;have q0:(op == 0)=false:=by rw [beq_eq_false_iff_ne];omega
 have q1:(op == 1)=false:=by rw [beq_eq_false_iff_ne];omega
 have ed:(op == 15)=false:=by rw [beq_eq_false_iff_ne];omega
 have ek:(op == 26)=false:=by rw [beq_eq_false_iff_ne];omega
 have eu:(op == 27)=false:=by rw [beq_eq_false_iff_ne];omega
 have ez:(op == 63)=false:=by rw [beq_eq_false_iff_ne];omega
 have eB:(op == 64)=false:=by rw [beq_eq_false_iff_ne];omega
 have q2:(op == 2)=false:=by rw [beq_eq_false_iff_ne];omega
 have q3:(op == 3)=false:=by rw [beq_eq_false_iff_ne];omega
 have q4:(op == 4)=false:=by rw [beq_eq_false_iff_ne];omega
 have eC:(op == 12)=false:=by rw [beq_eq_false_iff_ne];omega
 have eD:(op == 13)=false:=by rw [beq_eq_false_iff_ne];omega
 have eH:(op == 14)=false:=by rw [beq_eq_false_iff_ne];omega
 have q16:(op == 16)=false:=by rw [beq_eq_false_iff_ne];omega
 have eM:(op == 17)=false:=by rw [beq_eq_false_iff_ne];omega
 have eO:(op == 40)=false:=by rw [beq_eq_false_iff_ne];omega
 have eP:(op == 41)=false:=by rw [beq_eq_false_iff_ne];omega
 have eQ:(op == 65)=false:=by rw [beq_eq_false_iff_ne];omega
 have eT:(op == 66)=false:=by rw [beq_eq_false_iff_ne];omega
 have gq:(op == 42)=false:=by rw [beq_eq_false_iff_ne];omega
 have gu:(op == 43)=false:=by rw [beq_eq_false_iff_ne];omega
 have gy:(op == 56)=false:=by rw [beq_eq_false_iff_ne];omega
 have gz:(op == 57)=false:=by rw [beq_eq_false_iff_ne];omega
 have gA:(op == 67)=false:=by rw [beq_eq_false_iff_ne];omega
 have gD:(op == 68)=false:=by rw [beq_eq_false_iff_ne];omega
 have r32:decide (32<=op/\op<=36)=false:=decide_eq_false (by omega);have R32:=aj r32;clear r32;have bS:decide (44<=op/\op<=55)=false:=decide_eq_false (by omega);have fP:=aj bS;clear bS;have bT:decide (58<=op/\op<=62)=false:=decide_eq_false (by omega);have gF:=aj bT;clear bT;have bU:decide (91<=op/\op<=102)=false:=decide_eq_false (by omega);have gP:=aj bU;clear bU;have bV:decide (139<=op/\op<=166)=false:=decide_eq_false (by omega);have ia:=aj bV;clear bV;have bW:decide (168<=op/\op<=171)=true:=decide_eq_true (by omega);have iE:=aj bW;clear bW;have bX:decide (174<=op/\op<=191)=false:=decide_eq_false (by omega);have iT:=aj bX;clear bX;clear h;go_enter Tryz.func81,Tryz.ntmps81;go_wp2_with fail;refine (cE _ _).mono ?_;rintro e u ⟨rfl,rfl⟩;generalize aQ.sig op=t at *;go_wp2_with fail;refine (aO _ _ _ _).mono ?_;rintro e u ⟨rfl,rfl⟩;rw [R32.out];go_wp2_with fail;refine (aO _ _ _ _).mono ?_;rintro e u ⟨rfl,rfl⟩;rw [fP.out];go_wp2_with fail;refine (aO _ _ _ _).mono ?_;rintro e u ⟨rfl,rfl⟩;rw [gF.out];go_wp2_with fail;refine (aO _ _ _ _).mono ?_;rintro e u ⟨rfl,rfl⟩;rw [gP.out];go_wp2_with fail;refine (aO _ _ _ _).mono ?_;rintro e u ⟨rfl,rfl⟩;rw [ia.out];go_wp2_with fail;refine (aO _ _ _ _).mono ?_;rintro e u ⟨rfl,rfl⟩;rw [iE.out];go_wp2;go_ret;exact ⟨rfl,rfl⟩
theorem Rm (op:Int) (w:World) (h:172<=op/\op<=173):Calls Tryz.prog 81 #[.int .i64 op] w fun e w'=>e=.returned (.int .i64 1)/\w'=w:=by
 have hs:=cB op;have hp:decide (0<(aQ.sig op).1)=true:=by exact decide_eq_true (hs.2 (by omega))
 clear hs;have q0:(op == 0)=false:=by rw [beq_eq_false_iff_ne];omega
 have q1:(op == 1)=false:=by rw [beq_eq_false_iff_ne];omega
 have ed:(op == 15)=false:=by rw [beq_eq_false_iff_ne];omega
 have ek:(op == 26)=false:=by rw [beq_eq_false_iff_ne];omega
 have eu:(op == 27)=false:=by rw [beq_eq_false_iff_ne];omega
 have ez:(op == 63)=false:=by rw [beq_eq_false_iff_ne];omega
 have eB:(op == 64)=false:=by rw [beq_eq_false_iff_ne];omega
 have q2:(op == 2)=false:=by rw [beq_eq_false_iff_ne];omega
 have q3:(op == 3)=false:=by rw [beq_eq_false_iff_ne];omega
 have q4:(op == 4)=false:=by rw [beq_eq_false_iff_ne];omega
 have eC:(op == 12)=false:=by rw [beq_eq_false_iff_ne];omega
 have eD:(op == 13)=false:=by rw [beq_eq_false_iff_ne];omega
 have eH:(op == 14)=false:=by rw [beq_eq_false_iff_ne];omega
 have q16:(op == 16)=false:=by rw [beq_eq_false_iff_ne];omega
 have eM:(op == 17)=false:=by rw [beq_eq_false_iff_ne];omega
 have eO:(op == 40)=false:=by rw [beq_eq_false_iff_ne];omega
 have eP:(op == 41)=false:=by rw [beq_eq_false_iff_ne];omega
 have eQ:(op == 65)=false:=by rw [beq_eq_false_iff_ne];omega
 have eT:(op == 66)=false:=by rw [beq_eq_false_iff_ne];omega
 have gq:(op == 42)=false:=by rw [beq_eq_false_iff_ne];omega
 have gu:(op == 43)=false:=by rw [beq_eq_false_iff_ne];omega
 have gy:(op == 56)=false:=by rw [beq_eq_false_iff_ne];omega
 have gz:(op == 57)=false:=by rw [beq_eq_false_iff_ne];omega
 have gA:(op == 67)=false:=by rw [beq_eq_false_iff_ne];omega
 have gD:(op == 68)=false:=by rw [beq_eq_false_iff_ne];omega
 have r32:decide (32<=op/\op<=36)=false:=decide_eq_false (by omega);have R32:=aj r32;clear r32;have bS:decide (44<=op/\op<=55)=false:=decide_eq_false (by omega);have fP:=aj bS;clear bS;have bT:decide (58<=op/\op<=62)=false:=decide_eq_false (by omega);have gF:=aj bT;clear bT;have bU:decide (91<=op/\op<=102)=false:=decide_eq_false (by omega);have gP:=aj bU;clear bU;have bV:decide (139<=op/\op<=166)=false:=decide_eq_false (by omega);have ia:=aj bV;clear bV;have bW:decide (168<=op/\op<=171)=false:=decide_eq_false (by omega);have iE:=aj bW;clear bW;have bX:decide (174<=op/\op<=191)=false:=decide_eq_false (by omega);have iT:=aj bX;clear bX;clear h;go_enter Tryz.func81,Tryz.ntmps81;go_wp2_with fail;refine (cE _ _).mono ?_;rintro e u ⟨rfl,rfl⟩;generalize aQ.sig op=t at *;go_wp2;go_ret;exact ⟨rfl,rfl⟩
theorem Rn (op:Int) (w:World) (h:174<=op/\op<=191):Calls Tryz.prog 81 #[.int .i64 op] w fun e w'=>e=.returned (.int .i64 10)/\w'=w:=by
 have hs:=cB op;have hp:decide (0<(aQ.sig op).1)=false:=by exact decide_eq_false (fun hp=>by have:=hs.1 hp;omega)
 clear hs;have q0:(op == 0)=false:=by rw [beq_eq_false_iff_ne];omega
 have q1:(op == 1)=false:=by rw [beq_eq_false_iff_ne];omega
 have ed:(op == 15)=false:=by rw [beq_eq_false_iff_ne];omega
 have ek:(op == 26)=false:=by rw [beq_eq_false_iff_ne];omega
 have eu:(op == 27)=false:=by rw [beq_eq_false_iff_ne];omega
 have ez:(op == 63)=false:=by rw [beq_eq_false_iff_ne];omega
 have eB:(op == 64)=false:=by rw [beq_eq_false_iff_ne];omega
 have q2:(op == 2)=false:=by rw [beq_eq_false_iff_ne];omega
 have q3:(op == 3)=false:=by rw [beq_eq_false_iff_ne];omega
 have q4:(op == 4)=false:=by rw [beq_eq_false_iff_ne];omega
 have eC:(op == 12)=false:=by rw [beq_eq_false_iff_ne];omega
 have eD:(op == 13)=false:=by rw [beq_eq_false_iff_ne];omega
 have eH:(op == 14)=false:=by rw [beq_eq_false_iff_ne];omega
 have q16:(op == 16)=false:=by rw [beq_eq_false_iff_ne];omega
 have eM:(op == 17)=false:=by rw [beq_eq_false_iff_ne];omega
 have eO:(op == 40)=false:=by rw [beq_eq_false_iff_ne];omega
 have eP:(op == 41)=false:=by rw [beq_eq_false_iff_ne];omega
 have eQ:(op == 65)=false:=by rw [beq_eq_false_iff_ne];omega
 have eT:(op == 66)=false:=by rw [beq_eq_false_iff_ne];omega
 have gq:(op == 42)=false:=by rw [beq_eq_false_iff_ne];omega
 have gu:(op == 43)=false:=by rw [beq_eq_false_iff_ne];omega
 have gy:(op == 56)=false:=by rw [beq_eq_false_iff_ne];omega
 have gz:(op == 57)=false:=by rw [beq_eq_false_iff_ne];omega
 have gA:(op == 67)=false:=by rw [beq_eq_false_iff_ne];omega
 have gD:(op == 68)=false:=by rw [beq_eq_false_iff_ne];omega
 have r32:decide (32<=op/\op<=36)=false:=decide_eq_false (by omega);have R32:=aj r32;clear r32;have bS:decide (44<=op/\op<=55)=false:=decide_eq_false (by omega);have fP:=aj bS;clear bS;have bT:decide (58<=op/\op<=62)=false:=decide_eq_false (by omega);have gF:=aj bT;clear bT;have bU:decide (91<=op/\op<=102)=false:=decide_eq_false (by omega);have gP:=aj bU;clear bU;have bV:decide (139<=op/\op<=166)=false:=decide_eq_false (by omega);have ia:=aj bV;clear bV;have bW:decide (168<=op/\op<=171)=false:=decide_eq_false (by omega);have iE:=aj bW;clear bW;have bX:decide (174<=op/\op<=191)=true:=decide_eq_true (by omega);have iT:=aj bX;clear bX;clear h;go_enter Tryz.func81,Tryz.ntmps81;go_wp2_with fail;refine (cE _ _).mono ?_;rintro e u ⟨rfl,rfl⟩;generalize aQ.sig op=t at *;go_wp2_with fail;refine (aO _ _ _ _).mono ?_;rintro e u ⟨rfl,rfl⟩;rw [R32.out];go_wp2_with fail;refine (aO _ _ _ _).mono ?_;rintro e u ⟨rfl,rfl⟩;rw [fP.out];go_wp2_with fail;refine (aO _ _ _ _).mono ?_;rintro e u ⟨rfl,rfl⟩;rw [gF.out];go_wp2_with fail;refine (aO _ _ _ _).mono ?_;rintro e u ⟨rfl,rfl⟩;rw [gP.out];go_wp2_with fail;refine (aO _ _ _ _).mono ?_;rintro e u ⟨rfl,rfl⟩;rw [ia.out];go_wp2_with fail;refine (aO _ _ _ _).mono ?_;rintro e u ⟨rfl,rfl⟩;rw [iE.out];go_wp2_with fail;refine (aO _ _ _ _).mono ?_;rintro e u ⟨rfl,rfl⟩;rw [iT.out];go_wp2;go_ret;exact ⟨rfl,rfl⟩
theorem Ro (op:Int) (w:World) (h:192<=op):Calls Tryz.prog 81 #[.int .i64 op] w fun e w'=>e=.returned (.int .i64 0)/\w'=w:=by
 have hs:=cB op;have hp:decide (0<(aQ.sig op).1)=false:=by exact decide_eq_false (fun hp=>by have:=hs.1 hp;omega)
 clear hs;have q0:(op == 0)=false:=by rw [beq_eq_false_iff_ne];omega
 have q1:(op == 1)=false:=by rw [beq_eq_false_iff_ne];omega
 have ed:(op == 15)=false:=by rw [beq_eq_false_iff_ne];omega
 have ek:(op == 26)=false:=by rw [beq_eq_false_iff_ne];omega
 have eu:(op == 27)=false:=by rw [beq_eq_false_iff_ne];omega
 have ez:(op == 63)=false:=by rw [beq_eq_false_iff_ne];omega
 have eB:(op == 64)=false:=by rw [beq_eq_false_iff_ne];omega
 have q2:(op == 2)=false:=by rw [beq_eq_false_iff_ne];omega
 have q3:(op == 3)=false:=by rw [beq_eq_false_iff_ne];omega
 have q4:(op == 4)=false:=by rw [beq_eq_false_iff_ne];omega
 have eC:(op == 12)=false:=by rw [beq_eq_false_iff_ne];omega
 have eD:(op == 13)=false:=by rw [beq_eq_false_iff_ne];omega
 have eH:(op == 14)=false:=by rw [beq_eq_false_iff_ne];omega
 have q16:(op == 16)=false:=by rw [beq_eq_false_iff_ne];omega
 have eM:(op == 17)=false:=by rw [beq_eq_false_iff_ne];omega
 have eO:(op == 40)=false:=by rw [beq_eq_false_iff_ne];omega
 have eP:(op == 41)=false:=by rw [beq_eq_false_iff_ne];omega
 have eQ:(op == 65)=false:=by rw [beq_eq_false_iff_ne];omega
 have eT:(op == 66)=false:=by rw [beq_eq_false_iff_ne];omega
 have gq:(op == 42)=false:=by rw [beq_eq_false_iff_ne];omega
 have gu:(op == 43)=false:=by rw [beq_eq_false_iff_ne];omega
 have gy:(op == 56)=false:=by rw [beq_eq_false_iff_ne];omega
 have gz:(op == 57)=false:=by rw [beq_eq_false_iff_ne];omega
 have gA:(op == 67)=false:=by rw [beq_eq_false_iff_ne];omega
 have gD:(op == 68)=false:=by rw [beq_eq_false_iff_ne];omega
 have r32:decide (32<=op/\op<=36)=false:=decide_eq_false (by omega);have R32:=aj r32;clear r32;have bS:decide (44<=op/\op<=55)=false:=decide_eq_false (by omega);have fP:=aj bS;clear bS;have bT:decide (58<=op/\op<=62)=false:=decide_eq_false (by omega);have gF:=aj bT;clear bT;have bU:decide (91<=op/\op<=102)=false:=decide_eq_false (by omega);have gP:=aj bU;clear bU;have bV:decide (139<=op/\op<=166)=false:=decide_eq_false (by omega);have ia:=aj bV;clear bV;have bW:decide (168<=op/\op<=171)=false:=decide_eq_false (by omega);have iE:=aj bW;clear bW;have bX:decide (174<=op/\op<=191)=false:=decide_eq_false (by omega);have iT:=aj bX;clear bX;clear h;go_enter Tryz.func81,Tryz.ntmps81;go_wp2_with fail;refine (cE _ _).mono ?_;rintro e u ⟨rfl,rfl⟩;generalize aQ.sig op=t at *;go_wp2_with fail;refine (aO _ _ _ _).mono ?_;rintro e u ⟨rfl,rfl⟩;rw [R32.out];go_wp2_with fail;refine (aO _ _ _ _).mono ?_;rintro e u ⟨rfl,rfl⟩;rw [fP.out];go_wp2_with fail;refine (aO _ _ _ _).mono ?_;rintro e u ⟨rfl,rfl⟩;rw [gF.out];go_wp2_with fail;refine (aO _ _ _ _).mono ?_;rintro e u ⟨rfl,rfl⟩;rw [gP.out];go_wp2_with fail;refine (aO _ _ _ _).mono ?_;rintro e u ⟨rfl,rfl⟩;rw [ia.out];go_wp2_with fail;refine (aO _ _ _ _).mono ?_;rintro e u ⟨rfl,rfl⟩;rw [iE.out];go_wp2_with fail;refine (aO _ _ _ _).mono ?_;rintro e u ⟨rfl,rfl⟩;rw [iT.out];go_wp2;go_ret;exact ⟨rfl,rfl⟩
theorem mh (op:Int) (w:World):Calls Tryz.prog 81 #[.int .i64 op] w fun e w'=>e=.returned (.int .i64 (form op))/\w'=w:=by
 by_cases c0:op<=-1
 ·have e:form op=0:=by
   unfold form
   repeat first|rw [if_neg (by omega)]|rw [if_pos (by omega)]
  rw [e];exact Qz op w (by omega)
 by_cases c1:op<=0
 ·have e:form op=1:=by
   unfold form
   repeat first|rw [if_neg (by omega)]|rw [if_pos (by omega)]
  rw [e];exact QA op w (by omega)
 by_cases c2:op<=1
 ·have e:form op=1:=by
   unfold form
   repeat first|rw [if_neg (by omega)]|rw [if_pos (by omega)]
  rw [e];exact QB op w (by omega)
 by_cases c3:op<=2
 ·have e:form op=2:=by
   unfold form
   repeat first|rw [if_neg (by omega)]|rw [if_pos (by omega)]
  rw [e];exact QC op w (by omega)
 by_cases c4:op<=3
 ·have e:form op=2:=by
   unfold form
   repeat first|rw [if_neg (by omega)]|rw [if_pos (by omega)]
  rw [e];exact QD op w (by omega)
 by_cases c5:op<=4
 ·have e:form op=3:=by
   unfold form
   repeat first|rw [if_neg (by omega)]|rw [if_pos (by omega)]
  rw [e];exact QE op w (by omega)
 by_cases c6:op<=11
 ·have e:form op=0:=by
   unfold form
   repeat first|rw [if_neg (by omega)]|rw [if_pos (by omega)]
  rw [e];exact QF op w (by omega)
 by_cases c7:op<=12
 ·have e:form op=4:=by
   unfold form
   repeat first|rw [if_neg (by omega)]|rw [if_pos (by omega)]
  rw [e];exact QG op w (by omega)
 by_cases c8:op<=13
 ·have e:form op=4:=by
   unfold form
   repeat first|rw [if_neg (by omega)]|rw [if_pos (by omega)]
  rw [e];exact QH op w (by omega)
 by_cases c9:op<=14
 ·have e:form op=5:=by
   unfold form
   repeat first|rw [if_neg (by omega)]|rw [if_pos (by omega)]
  rw [e];exact QI op w (by omega)
 by_cases c10:op<=15
 ·have e:form op=1:=by
   unfold form
   repeat first|rw [if_neg (by omega)]|rw [if_pos (by omega)]
  rw [e];exact QJ op w (by omega)
 by_cases c11:op<=16
 ·have e:form op=6:=by
   unfold form
   repeat first|rw [if_neg (by omega)]|rw [if_pos (by omega)]
  rw [e];exact QK op w (by omega)
 by_cases c12:op<=17
 ·have e:form op=7:=by
   unfold form
   repeat first|rw [if_neg (by omega)]|rw [if_pos (by omega)]
  rw [e];exact QL op w (by omega)
 by_cases c13:op<=25
 ·have e:form op=0:=by
   unfold form
   repeat first|rw [if_neg (by omega)]|rw [if_pos (by omega)]
  rw [e];exact QM op w (by omega)
 by_cases c14:op<=26
 ·have e:form op=1:=by
   unfold form
   repeat first|rw [if_neg (by omega)]|rw [if_pos (by omega)]
  rw [e];exact Sb op w (by omega)
 by_cases c15:op<=27
 ·have e:form op=1:=by
   unfold form
   repeat first|rw [if_neg (by omega)]|rw [if_pos (by omega)]
  rw [e];exact Sc op w (by omega)
 by_cases c16:op<=31
 ·have e:form op=0:=by
   unfold form
   repeat first|rw [if_neg (by omega)]|rw [if_pos (by omega)]
  rw [e];exact Sd op w (by omega)
 by_cases c17:op<=36
 ·have e:form op=6:=by
   unfold form
   repeat first|rw [if_neg (by omega)]|rw [if_pos (by omega)]
  rw [e];exact Se op w (by omega)
 by_cases c18:op<=39
 ·have e:form op=0:=by
   unfold form
   repeat first|rw [if_neg (by omega)]|rw [if_pos (by omega)]
  rw [e];exact Sf op w (by omega)
 by_cases c19:op<=40
 ·have e:form op=8:=by
   unfold form
   repeat first|rw [if_neg (by omega)]|rw [if_pos (by omega)]
  rw [e];exact Si op w (by omega)
 by_cases Ms:op<=41
 ·have e:form op=8:=by
   unfold form
   repeat first|rw [if_neg (by omega)]|rw [if_pos (by omega)]
  rw [e];exact Sj op w (by omega)
 by_cases c21:op<=42
 ·have e:form op=10:=by
   unfold form
   repeat first|rw [if_neg (by omega)]|rw [if_pos (by omega)]
  rw [e];exact Sk op w (by omega)
 by_cases qY:op<=43
 ·have e:form op=10:=by
   unfold form
   repeat first|rw [if_neg (by omega)]|rw [if_pos (by omega)]
  rw [e];exact Sl op w (by omega)
 by_cases Bb:op<=55
 ·have e:form op=8:=by
   unfold form
   repeat first|rw [if_neg (by omega)]|rw [if_pos (by omega)]
  rw [e];exact Sn op w (by omega)
 by_cases Cz:op<=56
 ·have e:form op=10:=by
   unfold form
   repeat first|rw [if_neg (by omega)]|rw [if_pos (by omega)]
  rw [e];exact Sq op w (by omega)
 by_cases Ch:op<=57
 ·have e:form op=10:=by
   unfold form
   repeat first|rw [if_neg (by omega)]|rw [if_pos (by omega)]
  rw [e];exact Sr op w (by omega)
 by_cases vX:op<=62
 ·have e:form op=8:=by
   unfold form
   repeat first|rw [if_neg (by omega)]|rw [if_pos (by omega)]
  rw [e];exact Ss op w (by omega)
 by_cases ME:op<=63
 ·have e:form op=1:=by
   unfold form
   repeat first|rw [if_neg (by omega)]|rw [if_pos (by omega)]
  rw [e];exact Su op w (by omega)
 by_cases MH:op<=64
 ·have e:form op=1:=by
   unfold form
   repeat first|rw [if_neg (by omega)]|rw [if_pos (by omega)]
  rw [e];exact Q9 op w (by omega)
 by_cases MJ:op<=65
 ·have e:form op=9:=by
   unfold form
   repeat first|rw [if_neg (by omega)]|rw [if_pos (by omega)]
  rw [e];exact Ra op w (by omega)
 by_cases ML:op<=66
 ·have e:form op=9:=by
   unfold form
   repeat first|rw [if_neg (by omega)]|rw [if_pos (by omega)]
  rw [e];exact Rb op w (by omega)
 by_cases MO:op<=67
 ·have e:form op=10:=by
   unfold form
   repeat first|rw [if_neg (by omega)]|rw [if_pos (by omega)]
  rw [e];exact Rc op w (by omega)
 by_cases c32:op<=68
 ·have e:form op=10:=by
   unfold form
   repeat first|rw [if_neg (by omega)]|rw [if_pos (by omega)]
  rw [e];exact Re op w (by omega)
 by_cases MR:op<=90
 ·have e:form op=1:=by
   unfold form
   repeat first|rw [if_neg (by omega)]|rw [if_pos (by omega)]
  rw [e];exact Rf op w (by omega)
 by_cases MU:op<=102
 ·have e:form op=10:=by
   unfold form
   repeat first|rw [if_neg (by omega)]|rw [if_pos (by omega)]
  rw [e];exact Rh op w (by omega)
 by_cases MX:op<=138
 ·have e:form op=1:=by
   unfold form
   repeat first|rw [if_neg (by omega)]|rw [if_pos (by omega)]
  rw [e];exact Ri op w (by omega)
 by_cases M0:op<=166
 ·have e:form op=10:=by
   unfold form
   repeat first|rw [if_neg (by omega)]|rw [if_pos (by omega)]
  rw [e];exact Rj op w (by omega)
 by_cases M4:op<=167
 ·have e:form op=1:=by
   unfold form
   repeat first|rw [if_neg (by omega)]|rw [if_pos (by omega)]
  rw [e];exact Rk op w (by omega)
 by_cases M6:op<=171
 ·have e:form op=10:=by
   unfold form
   repeat first|rw [if_neg (by omega)]|rw [if_pos (by omega)]
  rw [e];exact Rl op w (by omega)
 by_cases M8:op<=173
 ·have e:form op=1:=by
   unfold form
   repeat first|rw [if_neg (by omega)]|rw [if_pos (by omega)]
  rw [e];exact Rm op w (by omega)
 by_cases Na:op<=191
 ·have e:form op=10:=by
   unfold form
   repeat first|rw [if_neg (by omega)]|rw [if_pos (by omega)]
  rw [e];exact Rn op w (by omega)
 have e:form op=0:=by
  unfold form
  repeat rw [if_neg (by omega)]
 rw [e];exact Ro op w (by omega)
end Go.Proofs.YtegboefdolfdgaaGreatDoor
