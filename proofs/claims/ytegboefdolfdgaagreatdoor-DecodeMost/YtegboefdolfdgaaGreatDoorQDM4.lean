/- Texts that the claim needs. -/
import Derived.Test.YtegboefdolfdgaaGreatDoorQDM3
namespace Go.Proofs.YtegboefdolfdgaaGreatDoor
open Go.RowKit aA
set_option linter.unusedVariables false
set_option maxHeartbeats 1000000
theorem Mk {I:World->Prop} (C:ck I) (op:Int) (w:World) (h:26<=op/\op<=26) (hI:I w):Calls Tryz.prog 89 #[.int .i64 op] w fun e w'=>e=.returned (.int .i64 1)/\Below w.heap.size w w':=by
 have hp:bC op=false:=decide_eq_false (by omega);have hfl:bz op=false:=decide_eq_false (by omega);have HI:=aj hI;clear hI;obtain rfl:op=26:=by omega
 clear h;go_enter Tryz.func89,Tryz.ntmps89;go_wp2;go_ret;exact ⟨rfl,Below.refl _ _⟩
theorem Ml {I:World->Prop} (C:ck I) (op:Int) (w:World) (h:27<=op/\op<=27) (hI:I w):Calls Tryz.prog 89 #[.int .i64 op] w fun e w'=>e=.returned (.int .i64 1)/\Below w.heap.size w w':=by
 have hp:bC op=false:=decide_eq_false (by omega);have hfl:bz op=false:=decide_eq_false (by omega);have HI:=aj hI;clear hI;obtain rfl:op=27:=by omega
 clear h;go_enter Tryz.func89,Tryz.ntmps89;go_wp2;go_ret;exact ⟨rfl,Below.refl _ _⟩
theorem Mm {I:World->Prop} (C:ck I) (op:Int) (w:World) (h:28<=op/\op<=31) (hI:I w):Calls Tryz.prog 89 #[.int .i64 op] w fun e w'=>e=.returned (.int .i64 0)/\Below w.heap.size w w':=by
 have hp:bC op=false:=decide_eq_false (by omega);have hfl:bz op=false:=decide_eq_false (by omega);have HI:=aj hI;clear hI;have q0:(op == 0)=false:=by rw [beq_eq_false_iff_ne];omega
 have q1:(op == 1)=false:=by rw [beq_eq_false_iff_ne];omega
 have ed:(op == 15)=false:=by rw [beq_eq_false_iff_ne];omega
 have ek:(op == 26)=false:=by rw [beq_eq_false_iff_ne];omega
 have eu:(op == 27)=false:=by rw [beq_eq_false_iff_ne];omega
 have ez:(op == 63)=false:=by rw [beq_eq_false_iff_ne];omega
 have eB:(op == 64)=false:=by rw [beq_eq_false_iff_ne];omega
 have q2:(op == 2)=false:=by rw [beq_eq_false_iff_ne];omega
 have q3:(op == 3)=false:=by rw [beq_eq_false_iff_ne];omega
 have q4:(op == 4)=false:=by rw [beq_eq_false_iff_ne];omega
 have eC:(op == 12)=false:=by rw [beq_eq_false_iff_ne];omega
 have eD:(op == 13)=false:=by rw [beq_eq_false_iff_ne];omega
 have eH:(op == 14)=false:=by rw [beq_eq_false_iff_ne];omega
 have q16:(op == 16)=false:=by rw [beq_eq_false_iff_ne];omega
 have eM:(op == 17)=false:=by rw [beq_eq_false_iff_ne];omega
 have eO:(op == 40)=false:=by rw [beq_eq_false_iff_ne];omega
 have eP:(op == 41)=false:=by rw [beq_eq_false_iff_ne];omega
 have eQ:(op == 65)=false:=by rw [beq_eq_false_iff_ne];omega
 have eT:(op == 66)=false:=by rw [beq_eq_false_iff_ne];omega
 have a32:decide ((32:Int)<=op)=false:=decide_eq_false (by omega);have lV:decide ((44:Int)<=op)=false:=decide_eq_false (by omega);have a58:decide ((58:Int)<=op)=false:=decide_eq_false (by omega);clear h;go_enter Tryz.func89,Tryz.ntmps89;go_wp2_with fail;refine (C.reckons _ _ HI.out).mono ?_;rintro e u ⟨rfl,hb⟩;have HB:=aj hb;clear hb;rw [hp];go_wp2_with fail;refine (lu _ _).mono ?_;rintro e u ⟨rfl,rfl⟩;rw [hfl];go_wp2;go_ret;exact ⟨rfl,HB.out⟩
theorem Mo {I:World->Prop} (C:ck I) (op:Int) (w:World) (h:32<=op/\op<=36) (hI:I w):Calls Tryz.prog 89 #[.int .i64 op] w fun e w'=>e=.returned (.int .i64 6)/\Below w.heap.size w w':=by
 have hp:bC op=false:=decide_eq_false (by omega);have hfl:bz op=false:=decide_eq_false (by omega);have HI:=aj hI;clear hI;have q0:(op == 0)=false:=by rw [beq_eq_false_iff_ne];omega
 have q1:(op == 1)=false:=by rw [beq_eq_false_iff_ne];omega
 have ed:(op == 15)=false:=by rw [beq_eq_false_iff_ne];omega
 have ek:(op == 26)=false:=by rw [beq_eq_false_iff_ne];omega
 have eu:(op == 27)=false:=by rw [beq_eq_false_iff_ne];omega
 have ez:(op == 63)=false:=by rw [beq_eq_false_iff_ne];omega
 have eB:(op == 64)=false:=by rw [beq_eq_false_iff_ne];omega
 have q2:(op == 2)=false:=by rw [beq_eq_false_iff_ne];omega
 have q3:(op == 3)=false:=by rw [beq_eq_false_iff_ne];omega
 have q4:(op == 4)=false:=by rw [beq_eq_false_iff_ne];omega
 have eC:(op == 12)=false:=by rw [beq_eq_false_iff_ne];omega
 have eD:(op == 13)=false:=by rw [beq_eq_false_iff_ne];omega
 have eH:(op == 14)=false:=by rw [beq_eq_false_iff_ne];omega
 have q16:(op == 16)=false:=by rw [beq_eq_false_iff_ne];omega
 have eM:(op == 17)=false:=by rw [beq_eq_false_iff_ne];omega
 have eO:(op == 40)=false:=by rw [beq_eq_false_iff_ne];omega
 have eP:(op == 41)=false:=by rw [beq_eq_false_iff_ne];omega
 have eQ:(op == 65)=false:=by rw [beq_eq_false_iff_ne];omega
 have eT:(op == 66)=false:=by rw [beq_eq_false_iff_ne];omega
 have a32:decide ((32:Int)<=op)=true:=decide_eq_true (by omega);have pJ:decide (op<=(36:Int))=true:=decide_eq_true (by omega);have lV:decide ((44:Int)<=op)=false:=decide_eq_false (by omega);have a58:decide ((58:Int)<=op)=false:=decide_eq_false (by omega);clear h;go_enter Tryz.func89,Tryz.ntmps89;go_wp2_with fail;refine (C.reckons _ _ HI.out).mono ?_;rintro e u ⟨rfl,hb⟩;have HB:=aj hb;clear hb;rw [hp];go_wp2;go_ret;exact ⟨rfl,HB.out⟩
theorem Mq {I:World->Prop} (C:ck I) (op:Int) (w:World) (h:37<=op/\op<=39) (hI:I w):Calls Tryz.prog 89 #[.int .i64 op] w fun e w'=>e=.returned (.int .i64 0)/\Below w.heap.size w w':=by
 have hp:bC op=false:=decide_eq_false (by omega);have hfl:bz op=false:=decide_eq_false (by omega);have HI:=aj hI;clear hI;have q0:(op == 0)=false:=by rw [beq_eq_false_iff_ne];omega
 have q1:(op == 1)=false:=by rw [beq_eq_false_iff_ne];omega
 have ed:(op == 15)=false:=by rw [beq_eq_false_iff_ne];omega
 have ek:(op == 26)=false:=by rw [beq_eq_false_iff_ne];omega
 have eu:(op == 27)=false:=by rw [beq_eq_false_iff_ne];omega
 have ez:(op == 63)=false:=by rw [beq_eq_false_iff_ne];omega
 have eB:(op == 64)=false:=by rw [beq_eq_false_iff_ne];omega
 have q2:(op == 2)=false:=by rw [beq_eq_false_iff_ne];omega
 have q3:(op == 3)=false:=by rw [beq_eq_false_iff_ne];omega
 have q4:(op == 4)=false:=by rw [beq_eq_false_iff_ne];omega
 have eC:(op == 12)=false:=by rw [beq_eq_false_iff_ne];omega
 have eD:(op == 13)=false:=by rw [beq_eq_false_iff_ne];omega
 have eH:(op == 14)=false:=by rw [beq_eq_false_iff_ne];omega
 have q16:(op == 16)=false:=by rw [beq_eq_false_iff_ne];omega
 have eM:(op == 17)=false:=by rw [beq_eq_false_iff_ne];omega
 have eO:(op == 40)=false:=by rw [beq_eq_false_iff_ne];omega
 have eP:(op == 41)=false:=by rw [beq_eq_false_iff_ne];omega
 have eQ:(op == 65)=false:=by rw [beq_eq_false_iff_ne];omega
 have eT:(op == 66)=false:=by rw [beq_eq_false_iff_ne];omega
 have a32:decide ((32:Int)<=op)=true:=decide_eq_true (by omega);have pJ:decide (op<=(36:Int))=false:=decide_eq_false (by omega);have lV:decide ((44:Int)<=op)=false:=decide_eq_false (by omega);have a58:decide ((58:Int)<=op)=false:=decide_eq_false (by omega);clear h;go_enter Tryz.func89,Tryz.ntmps89;go_wp2_with fail;refine (C.reckons _ _ HI.out).mono ?_;rintro e u ⟨rfl,hb⟩;have HB:=aj hb;clear hb;rw [hp];go_wp2_with fail;refine (lu _ _).mono ?_;rintro e u ⟨rfl,rfl⟩;rw [hfl];go_wp2;go_ret;exact ⟨rfl,HB.out⟩
theorem Mr {I:World->Prop} (C:ck I) (op:Int) (w:World) (h:40<=op/\op<=40) (hI:I w):Calls Tryz.prog 89 #[.int .i64 op] w fun e w'=>e=.returned (.int .i64 8)/\Below w.heap.size w w':=by
 have hp:bC op=false:=decide_eq_false (by omega);have hfl:bz op=false:=decide_eq_false (by omega);have HI:=aj hI;clear hI;obtain rfl:op=40:=by omega
 clear h;go_enter Tryz.func89,Tryz.ntmps89;go_wp2_with fail;refine (C.reckons _ _ HI.out).mono ?_;rintro e u ⟨rfl,hb⟩;have HB:=aj hb;clear hb;rw [hp];go_wp2;go_ret;exact ⟨rfl,HB.out⟩
theorem Mt {I:World->Prop} (C:ck I) (op:Int) (w:World) (h:41<=op/\op<=41) (hI:I w):Calls Tryz.prog 89 #[.int .i64 op] w fun e w'=>e=.returned (.int .i64 8)/\Below w.heap.size w w':=by
 have hp:bC op=false:=decide_eq_false (by omega);have hfl:bz op=false:=decide_eq_false (by omega);have HI:=aj hI;clear hI;obtain rfl:op=41:=by omega
 clear h;go_enter Tryz.func89,Tryz.ntmps89;go_wp2_with fail;refine (C.reckons _ _ HI.out).mono ?_;rintro e u ⟨rfl,hb⟩;have HB:=aj hb;clear hb;rw [hp];go_wp2;go_ret;exact ⟨rfl,HB.out⟩
theorem Mv {I:World->Prop} (C:ck I) (op:Int) (w:World) (h:42<=op/\op<=42) (hI:I w):Calls Tryz.prog 89 #[.int .i64 op] w fun e w'=>e=.returned (.int .i64 10)/\Below w.heap.size w w':=by
 have hp:bC op=false:=decide_eq_false (by omega);have hfl:bz op=true:=decide_eq_true (by omega);have HI:=aj hI;clear hI;obtain rfl:op=42:=by omega
 clear h;go_enter Tryz.func89,Tryz.ntmps89;go_wp2_with fail;refine (C.reckons _ _ HI.out).mono ?_;rintro e u ⟨rfl,hb⟩;have HB:=aj hb;clear hb;rw [hp];go_wp2_with fail;refine (lu _ _).mono ?_;rintro e u ⟨rfl,rfl⟩;rw [hfl];go_wp2;go_ret;exact ⟨rfl,HB.out⟩
theorem Mw {I:World->Prop} (C:ck I) (op:Int) (w:World) (h:43<=op/\op<=43) (hI:I w):Calls Tryz.prog 89 #[.int .i64 op] w fun e w'=>e=.returned (.int .i64 10)/\Below w.heap.size w w':=by
 have hp:bC op=false:=decide_eq_false (by omega);have hfl:bz op=true:=decide_eq_true (by omega);have HI:=aj hI;clear hI;obtain rfl:op=43:=by omega
 clear h;go_enter Tryz.func89,Tryz.ntmps89;go_wp2_with fail;refine (C.reckons _ _ HI.out).mono ?_;rintro e u ⟨rfl,hb⟩;have HB:=aj hb;clear hb;rw [hp];go_wp2_with fail;refine (lu _ _).mono ?_;rintro e u ⟨rfl,rfl⟩;rw [hfl];go_wp2;go_ret;exact ⟨rfl,HB.out⟩
theorem Mx {I:World->Prop} (C:ck I) (op:Int) (w:World) (h:44<=op/\op<=55) (hI:I w):Calls Tryz.prog 89 #[.int .i64 op] w fun e w'=>e=.returned (.int .i64 8)/\Below w.heap.size w w':=by
 have hp:bC op=false:=decide_eq_false (by omega);have hfl:bz op=false:=decide_eq_false (by omega);have HI:=aj hI;clear hI;have q0:(op == 0)=false:=by rw [beq_eq_false_iff_ne];omega
 have q1:(op == 1)=false:=by rw [beq_eq_false_iff_ne];omega
 have ed:(op == 15)=false:=by rw [beq_eq_false_iff_ne];omega
 have ek:(op == 26)=false:=by rw [beq_eq_false_iff_ne];omega
 have eu:(op == 27)=false:=by rw [beq_eq_false_iff_ne];omega
 have ez:(op == 63)=false:=by rw [beq_eq_false_iff_ne];omega
 have eB:(op == 64)=false:=by rw [beq_eq_false_iff_ne];omega
 have q2:(op == 2)=false:=by rw [beq_eq_false_iff_ne];omega
 have q3:(op == 3)=false:=by rw [beq_eq_false_iff_ne];omega
 have q4:(op == 4)=false:=by rw [beq_eq_false_iff_ne];omega
 have eC:(op == 12)=false:=by rw [beq_eq_false_iff_ne];omega
 have eD:(op == 13)=false:=by rw [beq_eq_false_iff_ne];omega
 have eH:(op == 14)=false:=by rw [beq_eq_false_iff_ne];omega
 have q16:(op == 16)=false:=by rw [beq_eq_false_iff_ne];omega
 have eM:(op == 17)=false:=by rw [beq_eq_false_iff_ne];omega
 have eO:(op == 40)=false:=by rw [beq_eq_false_iff_ne];omega
 have eP:(op == 41)=false:=by rw [beq_eq_false_iff_ne];omega
 have eQ:(op == 65)=false:=by rw [beq_eq_false_iff_ne];omega
 have eT:(op == 66)=false:=by rw [beq_eq_false_iff_ne];omega
 have a32:decide ((32:Int)<=op)=true:=decide_eq_true (by omega);have pJ:decide (op<=(36:Int))=false:=decide_eq_false (by omega);have lV:decide ((44:Int)<=op)=true:=decide_eq_true (by omega);have rJ:decide (op<=(55:Int))=true:=decide_eq_true (by omega);have a58:decide ((58:Int)<=op)=false:=decide_eq_false (by omega);clear h;go_enter Tryz.func89,Tryz.ntmps89;go_wp2_with fail;refine (C.reckons _ _ HI.out).mono ?_;rintro e u ⟨rfl,hb⟩;have HB:=aj hb;clear hb;rw [hp];go_wp2;go_ret;exact ⟨rfl,HB.out⟩
theorem My {I:World->Prop} (C:ck I) (op:Int) (w:World) (h:56<=op/\op<=56) (hI:I w):Calls Tryz.prog 89 #[.int .i64 op] w fun e w'=>e=.returned (.int .i64 10)/\Below w.heap.size w w':=by
 have hp:bC op=false:=decide_eq_false (by omega);have hfl:bz op=true:=decide_eq_true (by omega);have HI:=aj hI;clear hI;obtain rfl:op=56:=by omega
 clear h;go_enter Tryz.func89,Tryz.ntmps89;go_wp2_with fail;refine (C.reckons _ _ HI.out).mono ?_;rintro e u ⟨rfl,hb⟩;have HB:=aj hb;clear hb;rw [hp];go_wp2_with fail;refine (lu _ _).mono ?_;rintro e u ⟨rfl,rfl⟩;rw [hfl];go_wp2;go_ret;exact ⟨rfl,HB.out⟩
theorem MB {I:World->Prop} (C:ck I) (op:Int) (w:World) (h:57<=op/\op<=57) (hI:I w):Calls Tryz.prog 89 #[.int .i64 op] w fun e w'=>e=.returned (.int .i64 10)/\Below w.heap.size w w':=by
 have hp:bC op=false:=decide_eq_false (by omega);have hfl:bz op=true:=decide_eq_true (by omega);have HI:=aj hI;clear hI;obtain rfl:op=57:=by omega
 clear h;go_enter Tryz.func89,Tryz.ntmps89;go_wp2_with fail;refine (C.reckons _ _ HI.out).mono ?_;rintro e u ⟨rfl,hb⟩;have HB:=aj hb;clear hb;rw [hp];go_wp2_with fail;refine (lu _ _).mono ?_;rintro e u ⟨rfl,rfl⟩;rw [hfl];go_wp2;go_ret;exact ⟨rfl,HB.out⟩
theorem MC {I:World->Prop} (C:ck I) (op:Int) (w:World) (h:58<=op/\op<=62) (hI:I w):Calls Tryz.prog 89 #[.int .i64 op] w fun e w'=>e=.returned (.int .i64 8)/\Below w.heap.size w w':=by
 have hp:bC op=false:=decide_eq_false (by omega);have hfl:bz op=false:=decide_eq_false (by omega);have HI:=aj hI;clear hI;have q0:(op == 0)=false:=by rw [beq_eq_false_iff_ne];omega
 have q1:(op == 1)=false:=by rw [beq_eq_false_iff_ne];omega
 have ed:(op == 15)=false:=by rw [beq_eq_false_iff_ne];omega
 have ek:(op == 26)=false:=by rw [beq_eq_false_iff_ne];omega
 have eu:(op == 27)=false:=by rw [beq_eq_false_iff_ne];omega
 have ez:(op == 63)=false:=by rw [beq_eq_false_iff_ne];omega
 have eB:(op == 64)=false:=by rw [beq_eq_false_iff_ne];omega
 have q2:(op == 2)=false:=by rw [beq_eq_false_iff_ne];omega
 have q3:(op == 3)=false:=by rw [beq_eq_false_iff_ne];omega
 have q4:(op == 4)=false:=by rw [beq_eq_false_iff_ne];omega
 have eC:(op == 12)=false:=by rw [beq_eq_false_iff_ne];omega
 have eD:(op == 13)=false:=by rw [beq_eq_false_iff_ne];omega
 have eH:(op == 14)=false:=by rw [beq_eq_false_iff_ne];omega
 have q16:(op == 16)=false:=by rw [beq_eq_false_iff_ne];omega
 have eM:(op == 17)=false:=by rw [beq_eq_false_iff_ne];omega
 have eO:(op == 40)=false:=by rw [beq_eq_false_iff_ne];omega
 have eP:(op == 41)=false:=by rw [beq_eq_false_iff_ne];omega
 have eQ:(op == 65)=false:=by rw [beq_eq_false_iff_ne];omega
 have eT:(op == 66)=false:=by rw [beq_eq_false_iff_ne];omega
 have a32:decide ((32:Int)<=op)=true:=decide_eq_true (by omega);have pJ:decide (op<=(36:Int))=false:=decide_eq_false (by omega);have lV:decide ((44:Int)<=op)=true:=decide_eq_true (by omega);have rJ:decide (op<=(55:Int))=false:=decide_eq_false (by omega);have a58:decide ((58:Int)<=op)=true:=decide_eq_true (by omega);have tL:decide (op<=(62:Int))=true:=decide_eq_true (by omega);clear h;go_enter Tryz.func89,Tryz.ntmps89;go_wp2_with fail;refine (C.reckons _ _ HI.out).mono ?_;rintro e u ⟨rfl,hb⟩;have HB:=aj hb;clear hb;rw [hp];go_wp2;go_ret;exact ⟨rfl,HB.out⟩
theorem MF {I:World->Prop} (C:ck I) (op:Int) (w:World) (h:63<=op/\op<=63) (hI:I w):Calls Tryz.prog 89 #[.int .i64 op] w fun e w'=>e=.returned (.int .i64 1)/\Below w.heap.size w w':=by
 have hp:bC op=false:=decide_eq_false (by omega);have hfl:bz op=false:=decide_eq_false (by omega);have HI:=aj hI;clear hI;obtain rfl:op=63:=by omega
 clear h;go_enter Tryz.func89,Tryz.ntmps89;go_wp2;go_ret;exact ⟨rfl,Below.refl _ _⟩
theorem MI {I:World->Prop} (C:ck I) (op:Int) (w:World) (h:64<=op/\op<=64) (hI:I w):Calls Tryz.prog 89 #[.int .i64 op] w fun e w'=>e=.returned (.int .i64 1)/\Below w.heap.size w w':=by
 have hp:bC op=false:=decide_eq_false (by omega);have hfl:bz op=false:=decide_eq_false (by omega);have HI:=aj hI;clear hI;obtain rfl:op=64:=by omega
 clear h;go_enter Tryz.func89,Tryz.ntmps89;go_wp2;go_ret;exact ⟨rfl,Below.refl _ _⟩
theorem MK {I:World->Prop} (C:ck I) (op:Int) (w:World) (h:65<=op/\op<=65) (hI:I w):Calls Tryz.prog 89 #[.int .i64 op] w fun e w'=>e=.returned (.int .i64 9)/\Below w.heap.size w w':=by
 have hp:bC op=false:=decide_eq_false (by omega);have hfl:bz op=false:=decide_eq_false (by omega);have HI:=aj hI;clear hI;obtain rfl:op=65:=by omega
 clear h;go_enter Tryz.func89,Tryz.ntmps89;go_wp2_with fail;refine (C.reckons _ _ HI.out).mono ?_;rintro e u ⟨rfl,hb⟩;have HB:=aj hb;clear hb;rw [hp];go_wp2;go_ret;exact ⟨rfl,HB.out⟩
theorem MN {I:World->Prop} (C:ck I) (op:Int) (w:World) (h:66<=op/\op<=66) (hI:I w):Calls Tryz.prog 89 #[.int .i64 op] w fun e w'=>e=.returned (.int .i64 9)/\Below w.heap.size w w':=by
 have hp:bC op=false:=decide_eq_false (by omega);have hfl:bz op=false:=decide_eq_false (by omega);have HI:=aj hI;clear hI;obtain rfl:op=66:=by omega
 clear h;go_enter Tryz.func89,Tryz.ntmps89;go_wp2_with fail;refine (C.reckons _ _ HI.out).mono ?_;rintro e u ⟨rfl,hb⟩;have HB:=aj hb;clear hb;rw [hp];go_wp2;go_ret;exact ⟨rfl,HB.out⟩
theorem MP {I:World->Prop} (C:ck I) (op:Int) (w:World) (h:67<=op/\op<=67) (hI:I w):Calls Tryz.prog 89 #[.int .i64 op] w fun e w'=>e=.returned (.int .i64 10)/\Below w.heap.size w w':=by
 have hp:bC op=false:=decide_eq_false (by omega);have hfl:bz op=true:=decide_eq_true (by omega);have HI:=aj hI;clear hI;obtain rfl:op=67:=by omega
 clear h;go_enter Tryz.func89,Tryz.ntmps89;go_wp2_with fail;refine (C.reckons _ _ HI.out).mono ?_;rintro e u ⟨rfl,hb⟩;have HB:=aj hb;clear hb;rw [hp];go_wp2_with fail;refine (lu _ _).mono ?_;rintro e u ⟨rfl,rfl⟩;rw [hfl];go_wp2;go_ret;exact ⟨rfl,HB.out⟩
theorem MQ {I:World->Prop} (C:ck I) (op:Int) (w:World) (h:68<=op/\op<=68) (hI:I w):Calls Tryz.prog 89 #[.int .i64 op] w fun e w'=>e=.returned (.int .i64 10)/\Below w.heap.size w w':=by
 have hp:bC op=false:=decide_eq_false (by omega);have hfl:bz op=true:=decide_eq_true (by omega);have HI:=aj hI;clear hI;obtain rfl:op=68:=by omega
 clear h;go_enter Tryz.func89,Tryz.ntmps89;go_wp2_with fail;refine (C.reckons _ _ HI.out).mono ?_;rintro e u ⟨rfl,hb⟩;have HB:=aj hb;clear hb;rw [hp];go_wp2_with fail;refine (lu _ _).mono ?_;rintro e u ⟨rfl,rfl⟩;rw [hfl];go_wp2;go_ret;exact ⟨rfl,HB.out⟩
theorem MS {I:World->Prop} (C:ck I) (op:Int) (w:World) (h:69<=op/\op<=90) (hI:I w):Calls Tryz.prog 89 #[.int .i64 op] w fun e w'=>e=.returned (.int .i64 1)/\Below w.heap.size w w':=by
 have hp:bC op=true:=decide_eq_true (by omega);have hfl:bz op=false:=decide_eq_false (by omega);have HI:=aj hI;clear hI;have q0:(op == 0)=false:=by rw [beq_eq_false_iff_ne];omega
 have q1:(op == 1)=false:=by rw [beq_eq_false_iff_ne];omega
 have ed:(op == 15)=false:=by rw [beq_eq_false_iff_ne];omega
 have ek:(op == 26)=false:=by rw [beq_eq_false_iff_ne];omega
 have eu:(op == 27)=false:=by rw [beq_eq_false_iff_ne];omega
 have ez:(op == 63)=false:=by rw [beq_eq_false_iff_ne];omega
 have eB:(op == 64)=false:=by rw [beq_eq_false_iff_ne];omega
 have q2:(op == 2)=false:=by rw [beq_eq_false_iff_ne];omega
 have q3:(op == 3)=false:=by rw [beq_eq_false_iff_ne];omega
 have q4:(op == 4)=false:=by rw [beq_eq_false_iff_ne];omega
 have eC:(op == 12)=false:=by rw [beq_eq_false_iff_ne];omega
 have eD:(op == 13)=false:=by rw [beq_eq_false_iff_ne];omega
 have eH:(op == 14)=false:=by rw [beq_eq_false_iff_ne];omega
 have q16:(op == 16)=false:=by rw [beq_eq_false_iff_ne];omega
 have eM:(op == 17)=false:=by rw [beq_eq_false_iff_ne];omega
 have eO:(op == 40)=false:=by rw [beq_eq_false_iff_ne];omega
 have eP:(op == 41)=false:=by rw [beq_eq_false_iff_ne];omega
 have eQ:(op == 65)=false:=by rw [beq_eq_false_iff_ne];omega
 have eT:(op == 66)=false:=by rw [beq_eq_false_iff_ne];omega
 have a32:decide ((32:Int)<=op)=true:=decide_eq_true (by omega);have pJ:decide (op<=(36:Int))=false:=decide_eq_false (by omega);have lV:decide ((44:Int)<=op)=true:=decide_eq_true (by omega);have rJ:decide (op<=(55:Int))=false:=decide_eq_false (by omega);have a58:decide ((58:Int)<=op)=true:=decide_eq_true (by omega);have tL:decide (op<=(62:Int))=false:=decide_eq_false (by omega);clear h;go_enter Tryz.func89,Tryz.ntmps89;go_wp2_with fail;refine (C.reckons _ _ HI.out).mono ?_;rintro e u ⟨rfl,hb⟩;have HB:=aj hb;clear hb;rw [hp];go_wp2;go_ret;exact ⟨rfl,HB.out⟩
theorem MV {I:World->Prop} (C:ck I) (op:Int) (w:World) (h:91<=op/\op<=102) (hI:I w):Calls Tryz.prog 89 #[.int .i64 op] w fun e w'=>e=.returned (.int .i64 10)/\Below w.heap.size w w':=by
 have hp:bC op=false:=decide_eq_false (by omega);have hfl:bz op=true:=decide_eq_true (by omega);have HI:=aj hI;clear hI;have q0:(op == 0)=false:=by rw [beq_eq_false_iff_ne];omega
 have q1:(op == 1)=false:=by rw [beq_eq_false_iff_ne];omega
 have ed:(op == 15)=false:=by rw [beq_eq_false_iff_ne];omega
 have ek:(op == 26)=false:=by rw [beq_eq_false_iff_ne];omega
 have eu:(op == 27)=false:=by rw [beq_eq_false_iff_ne];omega
 have ez:(op == 63)=false:=by rw [beq_eq_false_iff_ne];omega
 have eB:(op == 64)=false:=by rw [beq_eq_false_iff_ne];omega
 have q2:(op == 2)=false:=by rw [beq_eq_false_iff_ne];omega
 have q3:(op == 3)=false:=by rw [beq_eq_false_iff_ne];omega
 have q4:(op == 4)=false:=by rw [beq_eq_false_iff_ne];omega
 have eC:(op == 12)=false:=by rw [beq_eq_false_iff_ne];omega
 have eD:(op == 13)=false:=by rw [beq_eq_false_iff_ne];omega
 have eH:(op == 14)=false:=by rw [beq_eq_false_iff_ne];omega
 have q16:(op == 16)=false:=by rw [beq_eq_false_iff_ne];omega
 have eM:(op == 17)=false:=by rw [beq_eq_false_iff_ne];omega
 have eO:(op == 40)=false:=by rw [beq_eq_false_iff_ne];omega
 have eP:(op == 41)=false:=by rw [beq_eq_false_iff_ne];omega
 have eQ:(op == 65)=false:=by rw [beq_eq_false_iff_ne];omega
 have eT:(op == 66)=false:=by rw [beq_eq_false_iff_ne];omega
 have a32:decide ((32:Int)<=op)=true:=decide_eq_true (by omega);have pJ:decide (op<=(36:Int))=false:=decide_eq_false (by omega);have lV:decide ((44:Int)<=op)=true:=decide_eq_true (by omega);have rJ:decide (op<=(55:Int))=false:=decide_eq_false (by omega);have a58:decide ((58:Int)<=op)=true:=decide_eq_true (by omega);have tL:decide (op<=(62:Int))=false:=decide_eq_false (by omega);clear h;go_enter Tryz.func89,Tryz.ntmps89;go_wp2_with fail;refine (C.reckons _ _ HI.out).mono ?_;rintro e u ⟨rfl,hb⟩;have HB:=aj hb;clear hb;rw [hp];go_wp2_with fail;refine (lu _ _).mono ?_;rintro e u ⟨rfl,rfl⟩;rw [hfl];go_wp2;go_ret;exact ⟨rfl,HB.out⟩
theorem MZ {I:World->Prop} (C:ck I) (op:Int) (w:World) (h:103<=op/\op<=138) (hI:I w):Calls Tryz.prog 89 #[.int .i64 op] w fun e w'=>e=.returned (.int .i64 1)/\Below w.heap.size w w':=by
 have hp:bC op=true:=decide_eq_true (by omega);have hfl:bz op=false:=decide_eq_false (by omega);have HI:=aj hI;clear hI;have q0:(op == 0)=false:=by rw [beq_eq_false_iff_ne];omega
 have q1:(op == 1)=false:=by rw [beq_eq_false_iff_ne];omega
 have ed:(op == 15)=false:=by rw [beq_eq_false_iff_ne];omega
 have ek:(op == 26)=false:=by rw [beq_eq_false_iff_ne];omega
 have eu:(op == 27)=false:=by rw [beq_eq_false_iff_ne];omega
 have ez:(op == 63)=false:=by rw [beq_eq_false_iff_ne];omega
 have eB:(op == 64)=false:=by rw [beq_eq_false_iff_ne];omega
 have q2:(op == 2)=false:=by rw [beq_eq_false_iff_ne];omega
 have q3:(op == 3)=false:=by rw [beq_eq_false_iff_ne];omega
 have q4:(op == 4)=false:=by rw [beq_eq_false_iff_ne];omega
 have eC:(op == 12)=false:=by rw [beq_eq_false_iff_ne];omega
 have eD:(op == 13)=false:=by rw [beq_eq_false_iff_ne];omega
 have eH:(op == 14)=false:=by rw [beq_eq_false_iff_ne];omega
 have q16:(op == 16)=false:=by rw [beq_eq_false_iff_ne];omega
 have eM:(op == 17)=false:=by rw [beq_eq_false_iff_ne];omega
 have eO:(op == 40)=false:=by rw [beq_eq_false_iff_ne];omega
 have eP:(op == 41)=false:=by rw [beq_eq_false_iff_ne];omega
 have eQ:(op == 65)=false:=by rw [beq_eq_false_iff_ne];omega
 have eT:(op == 66)=false:=by rw [beq_eq_false_iff_ne];omega
 have a32:decide ((32:Int)<=op)=true:=decide_eq_true (by omega);have pJ:decide (op<=(36:Int))=false:=decide_eq_false (by omega);have lV:decide ((44:Int)<=op)=true:=decide_eq_true (by omega);have rJ:decide (op<=(55:Int))=false:=decide_eq_false (by omega);have a58:decide ((58:Int)<=op)=true:=decide_eq_true (by omega);have tL:decide (op<=(62:Int))=false:=decide_eq_false (by omega);clear h;go_enter Tryz.func89,Tryz.ntmps89;go_wp2_with fail;refine (C.reckons _ _ HI.out).mono ?_;rintro e u ⟨rfl,hb⟩;have HB:=aj hb;clear hb;rw [hp];go_wp2;go_ret;exact ⟨rfl,HB.out⟩
theorem M3 {I:World->Prop} (C:ck I) (op:Int) (w:World) (h:139<=op/\op<=166) (hI:I w):Calls Tryz.prog 89 #[.int .i64 op] w fun e w'=>e=.returned (.int .i64 10)/\Below w.heap.size w w':=by
 have hp:bC op=false:=decide_eq_false (by omega);have hfl:bz op=true:=decide_eq_true (by omega);have HI:=aj hI;clear hI;have q0:(op == 0)=false:=by rw [beq_eq_false_iff_ne];omega
 have q1:(op == 1)=false:=by rw [beq_eq_false_iff_ne];omega
 have ed:(op == 15)=false:=by rw [beq_eq_false_iff_ne];omega
 have ek:(op == 26)=false:=by rw [beq_eq_false_iff_ne];omega
 have eu:(op == 27)=false:=by rw [beq_eq_false_iff_ne];omega
 have ez:(op == 63)=false:=by rw [beq_eq_false_iff_ne];omega
 have eB:(op == 64)=false:=by rw [beq_eq_false_iff_ne];omega
 have q2:(op == 2)=false:=by rw [beq_eq_false_iff_ne];omega
 have q3:(op == 3)=false:=by rw [beq_eq_false_iff_ne];omega
 have q4:(op == 4)=false:=by rw [beq_eq_false_iff_ne];omega
 have eC:(op == 12)=false:=by rw [beq_eq_false_iff_ne];omega
 have eD:(op == 13)=false:=by rw [beq_eq_false_iff_ne];omega
 have eH:(op == 14)=false:=by rw [beq_eq_false_iff_ne];omega
 have q16:(op == 16)=false:=by rw [beq_eq_false_iff_ne];omega
 have eM:(op == 17)=false:=by rw [beq_eq_false_iff_ne];omega
 have eO:(op == 40)=false:=by rw [beq_eq_false_iff_ne];omega
 have eP:(op == 41)=false:=by rw [beq_eq_false_iff_ne];omega
 have eQ:(op == 65)=false:=by rw [beq_eq_false_iff_ne];omega
 have eT:(op == 66)=false:=by rw [beq_eq_false_iff_ne];omega
 have a32:decide ((32:Int)<=op)=true:=decide_eq_true (by omega);have pJ:decide (op<=(36:Int))=false:=decide_eq_false (by omega);have lV:decide ((44:Int)<=op)=true:=decide_eq_true (by omega);have rJ:decide (op<=(55:Int))=false:=decide_eq_false (by omega);have a58:decide ((58:Int)<=op)=true:=decide_eq_true (by omega);have tL:decide (op<=(62:Int))=false:=decide_eq_false (by omega);clear h;go_enter Tryz.func89,Tryz.ntmps89;go_wp2_with fail;refine (C.reckons _ _ HI.out).mono ?_;rintro e u ⟨rfl,hb⟩;have HB:=aj hb;clear hb;rw [hp];go_wp2_with fail;refine (lu _ _).mono ?_;rintro e u ⟨rfl,rfl⟩;rw [hfl];go_wp2;go_ret;exact ⟨rfl,HB.out⟩
theorem M5 {I:World->Prop} (C:ck I) (op:Int) (w:World) (h:167<=op/\op<=167) (hI:I w):Calls Tryz.prog 89 #[.int .i64 op] w fun e w'=>e=.returned (.int .i64 1)/\Below w.heap.size w w':=by
 have hp:bC op=true:=decide_eq_true (by omega);have hfl:bz op=false:=decide_eq_false (by omega);have HI:=aj hI;clear hI;obtain rfl:op=167:=by omega
 clear h;go_enter Tryz.func89,Tryz.ntmps89;go_wp2_with fail;refine (C.reckons _ _ HI.out).mono ?_;rintro e u ⟨rfl,hb⟩;have HB:=aj hb;clear hb;rw [hp];go_wp2;go_ret;exact ⟨rfl,HB.out⟩
theorem M7 {I:World->Prop} (C:ck I) (op:Int) (w:World) (h:168<=op/\op<=171) (hI:I w):Calls Tryz.prog 89 #[.int .i64 op] w fun e w'=>e=.returned (.int .i64 10)/\Below w.heap.size w w':=by
 have hp:bC op=false:=decide_eq_false (by omega);have hfl:bz op=true:=decide_eq_true (by omega);have HI:=aj hI;clear hI;have q0:(op == 0)=false:=by rw [beq_eq_false_iff_ne];omega
 have q1:(op == 1)=false:=by rw [beq_eq_false_iff_ne];omega
 have ed:(op == 15)=false:=by rw [beq_eq_false_iff_ne];omega
 have ek:(op == 26)=false:=by rw [beq_eq_false_iff_ne];omega
 have eu:(op == 27)=false:=by rw [beq_eq_false_iff_ne];omega
 have ez:(op == 63)=false:=by rw [beq_eq_false_iff_ne];omega
 have eB:(op == 64)=false:=by rw [beq_eq_false_iff_ne];omega
 have q2:(op == 2)=false:=by rw [beq_eq_false_iff_ne];omega
 have q3:(op == 3)=false:=by rw [beq_eq_false_iff_ne];omega
 have q4:(op == 4)=false:=by rw [beq_eq_false_iff_ne];omega
 have eC:(op == 12)=false:=by rw [beq_eq_false_iff_ne];omega
 have eD:(op == 13)=false:=by rw [beq_eq_false_iff_ne];omega
 have eH:(op == 14)=false:=by rw [beq_eq_false_iff_ne];omega
 have q16:(op == 16)=false:=by rw [beq_eq_false_iff_ne];omega
 have eM:(op == 17)=false:=by rw [beq_eq_false_iff_ne];omega
 have eO:(op == 40)=false:=by rw [beq_eq_false_iff_ne];omega
 have eP:(op == 41)=false:=by rw [beq_eq_false_iff_ne];omega
 have eQ:(op == 65)=false:=by rw [beq_eq_false_iff_ne];omega
 have eT:(op == 66)=false:=by rw [beq_eq_false_iff_ne];omega
 have a32:decide ((32:Int)<=op)=true:=decide_eq_true (by omega);have pJ:decide (op<=(36:Int))=false:=decide_eq_false (by omega);have lV:decide ((44:Int)<=op)=true:=decide_eq_true (by omega);have rJ:decide (op<=(55:Int))=false:=decide_eq_false (by omega);have a58:decide ((58:Int)<=op)=true:=decide_eq_true (by omega);have tL:decide (op<=(62:Int))=false:=decide_eq_false (by omega);clear h;go_enter Tryz.func89,Tryz.ntmps89;go_wp2_with fail;refine (C.reckons _ _ HI.out).mono ?_;rintro e u ⟨rfl,hb⟩;have HB:=aj hb;clear hb;rw [hp];go_wp2_with fail;refine (lu _ _).mono ?_;rintro e u ⟨rfl,rfl⟩;rw [hfl];go_wp2;go_ret;exact ⟨rfl,HB.out⟩
theorem M9 {I:World->Prop} (C:ck I) (op:Int) (w:World) (h:172<=op/\op<=173) (hI:I w):Calls Tryz.prog 89 #[.int .i64 op] w fun e w'=>e=.returned (.int .i64 1)/\Below w.heap.size w w':=by
 have hp:bC op=true:=decide_eq_true (by omega);have hfl:bz op=false:=decide_eq_false (by omega);have HI:=aj hI;clear hI;have q0:(op == 0)=false:=by rw [beq_eq_false_iff_ne];omega
 have q1:(op == 1)=false:=by rw [beq_eq_false_iff_ne];omega
 have ed:(op == 15)=false:=by rw [beq_eq_false_iff_ne];omega
 have ek:(op == 26)=false:=by rw [beq_eq_false_iff_ne];omega
 have eu:(op == 27)=false:=by rw [beq_eq_false_iff_ne];omega
 have ez:(op == 63)=false:=by rw [beq_eq_false_iff_ne];omega
 have eB:(op == 64)=false:=by rw [beq_eq_false_iff_ne];omega
 have q2:(op == 2)=false:=by rw [beq_eq_false_iff_ne];omega
 have q3:(op == 3)=false:=by rw [beq_eq_false_iff_ne];omega
 have q4:(op == 4)=false:=by rw [beq_eq_false_iff_ne];omega
 have eC:(op == 12)=false:=by rw [beq_eq_false_iff_ne];omega
 have eD:(op == 13)=false:=by rw [beq_eq_false_iff_ne];omega
 have eH:(op == 14)=false:=by rw [beq_eq_false_iff_ne];omega
 have q16:(op == 16)=false:=by rw [beq_eq_false_iff_ne];omega
 have eM:(op == 17)=false:=by rw [beq_eq_false_iff_ne];omega
 have eO:(op == 40)=false:=by rw [beq_eq_false_iff_ne];omega
 have eP:(op == 41)=false:=by rw [beq_eq_false_iff_ne];omega
 have eQ:(op == 65)=false:=by rw [beq_eq_false_iff_ne];omega
 have eT:(op == 66)=false:=by rw [beq_eq_false_iff_ne];omega
 have a32:decide ((32:Int)<=op)=true:=decide_eq_true (by omega);have pJ:decide (op<=(36:Int))=false:=decide_eq_false (by omega);have lV:decide ((44:Int)<=op)=true:=decide_eq_true (by omega);have rJ:decide (op<=(55:Int))=false:=decide_eq_false (by omega);have a58:decide ((58:Int)<=op)=true:=decide_eq_true (by omega);have tL:decide (op<=(62:Int))=false:=decide_eq_false (by omega);clear h;go_enter Tryz.func89,Tryz.ntmps89;go_wp2_with fail;refine (C.reckons _ _ HI.out).mono ?_;rintro e u ⟨rfl,hb⟩;have HB:=aj hb;clear hb;rw [hp];go_wp2;go_ret;exact ⟨rfl,HB.out⟩
theorem Nc {I:World->Prop} (C:ck I) (op:Int) (w:World) (h:174<=op/\op<=191) (hI:I w):Calls Tryz.prog 89 #[.int .i64 op] w fun e w'=>e=.returned (.int .i64 10)/\Below w.heap.size w w':=by
 have hp:bC op=false:=decide_eq_false (by omega);have hfl:bz op=true:=decide_eq_true (by omega);have HI:=aj hI;clear hI;have q0:(op == 0)=false:=by rw [beq_eq_false_iff_ne];omega
 have q1:(op == 1)=false:=by rw [beq_eq_false_iff_ne];omega
 have ed:(op == 15)=false:=by rw [beq_eq_false_iff_ne];omega
 have ek:(op == 26)=false:=by rw [beq_eq_false_iff_ne];omega
 have eu:(op == 27)=false:=by rw [beq_eq_false_iff_ne];omega
 have ez:(op == 63)=false:=by rw [beq_eq_false_iff_ne];omega
 have eB:(op == 64)=false:=by rw [beq_eq_false_iff_ne];omega
 have q2:(op == 2)=false:=by rw [beq_eq_false_iff_ne];omega
 have q3:(op == 3)=false:=by rw [beq_eq_false_iff_ne];omega
 have q4:(op == 4)=false:=by rw [beq_eq_false_iff_ne];omega
 have eC:(op == 12)=false:=by rw [beq_eq_false_iff_ne];omega
 have eD:(op == 13)=false:=by rw [beq_eq_false_iff_ne];omega
 have eH:(op == 14)=false:=by rw [beq_eq_false_iff_ne];omega
 have q16:(op == 16)=false:=by rw [beq_eq_false_iff_ne];omega
 have eM:(op == 17)=false:=by rw [beq_eq_false_iff_ne];omega
 have eO:(op == 40)=false:=by rw [beq_eq_false_iff_ne];omega
 have eP:(op == 41)=false:=by rw [beq_eq_false_iff_ne];omega
 have eQ:(op == 65)=false:=by rw [beq_eq_false_iff_ne];omega
 have eT:(op == 66)=false:=by rw [beq_eq_false_iff_ne];omega
 have a32:decide ((32:Int)<=op)=true:=decide_eq_true (by omega);have pJ:decide (op<=(36:Int))=false:=decide_eq_false (by omega);have lV:decide ((44:Int)<=op)=true:=decide_eq_true (by omega);have rJ:decide (op<=(55:Int))=false:=decide_eq_false (by omega);have a58:decide ((58:Int)<=op)=true:=decide_eq_true (by omega);have tL:decide (op<=(62:Int))=false:=decide_eq_false (by omega);clear h;go_enter Tryz.func89,Tryz.ntmps89;go_wp2_with fail;refine (C.reckons _ _ HI.out).mono ?_;rintro e u ⟨rfl,hb⟩;have HB:=aj hb;clear hb;rw [hp];go_wp2_with fail;refine (lu _ _).mono ?_;rintro e u ⟨rfl,rfl⟩;rw [hfl];go_wp2;go_ret;exact ⟨rfl,HB.out⟩
theorem Nf {I:World->Prop} (C:ck I) (op:Int) (w:World) (h:192<=op) (hI:I w):Calls Tryz.prog 89 #[.int .i64 op] w fun e w'=>e=.returned (.int .i64 0)/\Below w.heap.size w w':=by
 have hp:bC op=false:=decide_eq_false (by omega);have hfl:bz op=false:=decide_eq_false (by omega);have HI:=aj hI;clear hI;have q0:(op == 0)=false:=by rw [beq_eq_false_iff_ne];omega
 have q1:(op == 1)=false:=by rw [beq_eq_false_iff_ne];omega
 have ed:(op == 15)=false:=by rw [beq_eq_false_iff_ne];omega
 have ek:(op == 26)=false:=by rw [beq_eq_false_iff_ne];omega
 have eu:(op == 27)=false:=by rw [beq_eq_false_iff_ne];omega
 have ez:(op == 63)=false:=by rw [beq_eq_false_iff_ne];omega
 have eB:(op == 64)=false:=by rw [beq_eq_false_iff_ne];omega
 have q2:(op == 2)=false:=by rw [beq_eq_false_iff_ne];omega
 have q3:(op == 3)=false:=by rw [beq_eq_false_iff_ne];omega
 have q4:(op == 4)=false:=by rw [beq_eq_false_iff_ne];omega
 have eC:(op == 12)=false:=by rw [beq_eq_false_iff_ne];omega
 have eD:(op == 13)=false:=by rw [beq_eq_false_iff_ne];omega
 have eH:(op == 14)=false:=by rw [beq_eq_false_iff_ne];omega
 have q16:(op == 16)=false:=by rw [beq_eq_false_iff_ne];omega
 have eM:(op == 17)=false:=by rw [beq_eq_false_iff_ne];omega
 have eO:(op == 40)=false:=by rw [beq_eq_false_iff_ne];omega
 have eP:(op == 41)=false:=by rw [beq_eq_false_iff_ne];omega
 have eQ:(op == 65)=false:=by rw [beq_eq_false_iff_ne];omega
 have eT:(op == 66)=false:=by rw [beq_eq_false_iff_ne];omega
 have a32:decide ((32:Int)<=op)=true:=decide_eq_true (by omega);have pJ:decide (op<=(36:Int))=false:=decide_eq_false (by omega);have lV:decide ((44:Int)<=op)=true:=decide_eq_true (by omega);have rJ:decide (op<=(55:Int))=false:=decide_eq_false (by omega);have a58:decide ((58:Int)<=op)=true:=decide_eq_true (by omega);have tL:decide (op<=(62:Int))=false:=decide_eq_false (by omega);clear h;go_enter Tryz.func89,Tryz.ntmps89;go_wp2_with fail;refine (C.reckons _ _ HI.out).mono ?_;rintro e u ⟨rfl,hb⟩;have HB:=aj hb;clear hb;rw [hp];go_wp2_with fail;refine (lu _ _).mono ?_;rintro e u ⟨rfl,rfl⟩;rw [hfl];go_wp2;go_ret;exact ⟨rfl,HB.out⟩
end Go.Proofs.YtegboefdolfdgaaGreatDoor
