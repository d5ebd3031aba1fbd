/- Texts that the claim needs. -/
import Derived.Test.YtcfifbgemfladaaGreatDoorQDPa7
import Derived.Lib.SlBytesConst
import Derived.Laws.EntriesVeiled
namespace Go.Proofs.YtcfifbgemfladaaGreatDoor
open Go.RowKit au Go.Proofs.Tryz
set_option linter.unusedVariables false
set_option maxHeartbeats 1000000
theorem U4 {I:AG->Prop} (C:fw I) (op:Int) (w:AG) (h:26<=op/\op<=26) (hI:I w):Calls prog 111 #[.int .i64 op] w λe w'=>e=.returned (.int .i64 1)/\AS w w':=by
 have hp:dz op=false:=aj;have hfl:cB op=false:=aj;have HI:=ah hI;clear hI;obtain rfl:op=26:=by omega
 clear h;go_enter func111,ntmps111;go_wp2;go_ret;exact ⟨rfl,AC _ _⟩
theorem U5 {I:AG->Prop} (C:fw I) (op:Int) (w:AG) (h:27<=op/\op<=27) (hI:I w):Calls prog 111 #[.int .i64 op] w λe w'=>e=.returned (.int .i64 1)/\AS w w':=by
 have hp:dz op=false:=aj;have hfl:cB op=false:=aj;have HI:=ah hI;clear hI;obtain rfl:op=27:=by omega
 clear h;go_enter func111,ntmps111;go_wp2;go_ret;exact ⟨rfl,AC _ _⟩
theorem U6 {I:AG->Prop} (C:fw I) (op:Int) (w:AG) (h:28<=op/\op<=31) (hI:I w):Calls prog 111 #[.int .i64 op] w λe w'=>e=.returned (.int .i64 0)/\AS w w':=by
 have hp:dz op=false:=aj;have hfl:cB op=false:=aj;have HI:=ah hI;clear hI;obtain ⟨q0,q1,iK,iL,iM,iN,iO,q2,q3,q4,iP,iQ,iR,q16,iS,iT,iU,iV,iW,_⟩:=AN op [0,1,15,26,27,63,64,2,3,4,12,13,14,16,17,40,41,65,66] (by simp;omega);have a32:decide ((32:Int)<=op)=false:=aj;have qN:decide ((44:Int)<=op)=false:=aj;have a58:decide ((58:Int)<=op)=false:=aj;clear h;go_enter func111,ntmps111;go_wp2_with fail;refine (C.reckons _ _ HI.out).mono ?_;rintro e u ⟨rfl,hb⟩;have HB:=ah hb;clear hb;rw [hp];go_wp2_with fail;refine (qq _ _).mono ?_;rintro e u ⟨rfl,rfl⟩;rw [hfl];go_wp2;go_ret;exact ⟨rfl,HB.out⟩
theorem U7 {I:AG->Prop} (C:fw I) (op:Int) (w:AG) (h:32<=op/\op<=36) (hI:I w):Calls prog 111 #[.int .i64 op] w λe w'=>e=.returned (.int .i64 6)/\AS w w':=by
 have hp:dz op=false:=aj;have hfl:cB op=false:=aj;have HI:=ah hI;clear hI;obtain ⟨q0,q1,iK,iL,iM,iN,iO,q2,q3,q4,iP,iQ,iR,q16,iS,iT,iU,iV,iW,_⟩:=AN op [0,1,15,26,27,63,64,2,3,4,12,13,14,16,17,40,41,65,66] (by simp;omega);have a32:decide ((32:Int)<=op)=true:=ay;have vV:decide (op<=(36:Int))=true:=ay;have qN:decide ((44:Int)<=op)=false:=aj;have a58:decide ((58:Int)<=op)=false:=aj;clear h;go_enter func111,ntmps111;go_wp2_with fail;refine (C.reckons _ _ HI.out).mono ?_;rintro e u ⟨rfl,hb⟩;have HB:=ah hb;clear hb;rw [hp];go_wp2;go_ret;exact ⟨rfl,HB.out⟩
theorem U8 {I:AG->Prop} (C:fw I) (op:Int) (w:AG) (h:37<=op/\op<=39) (hI:I w):Calls prog 111 #[.int .i64 op] w λe w'=>e=.returned (.int .i64 0)/\AS w w':=by
 have hp:dz op=false:=aj;have hfl:cB op=false:=aj;have HI:=ah hI;clear hI;obtain ⟨q0,q1,iK,iL,iM,iN,iO,q2,q3,q4,iP,iQ,iR,q16,iS,iT,iU,iV,iW,_⟩:=AN op [0,1,15,26,27,63,64,2,3,4,12,13,14,16,17,40,41,65,66] (by simp;omega);have a32:decide ((32:Int)<=op)=true:=ay;have vV:decide (op<=(36:Int))=false:=aj;have qN:decide ((44:Int)<=op)=false:=aj;have a58:decide ((58:Int)<=op)=false:=aj;clear h;go_enter func111,ntmps111;go_wp2_with fail;refine (C.reckons _ _ HI.out).mono ?_;rintro e u ⟨rfl,hb⟩;have HB:=ah hb;clear hb;rw [hp];go_wp2_with fail;refine (qq _ _).mono ?_;rintro e u ⟨rfl,rfl⟩;rw [hfl];go_wp2;go_ret;exact ⟨rfl,HB.out⟩
theorem U9 {I:AG->Prop} (C:fw I) (op:Int) (w:AG) (h:40<=op/\op<=40) (hI:I w):Calls prog 111 #[.int .i64 op] w λe w'=>e=.returned (.int .i64 8)/\AS w w':=by
 have hp:dz op=false:=aj;have hfl:cB op=false:=aj;have HI:=ah hI;clear hI;obtain rfl:op=40:=by omega
 clear h;go_enter func111,ntmps111;go_wp2_with fail;refine (C.reckons _ _ HI.out).mono ?_;rintro e u ⟨rfl,hb⟩;have HB:=ah hb;clear hb;rw [hp];go_wp2;go_ret;exact ⟨rfl,HB.out⟩
theorem Vb {I:AG->Prop} (C:fw I) (op:Int) (w:AG) (h:41<=op/\op<=41) (hI:I w):Calls prog 111 #[.int .i64 op] w λe w'=>e=.returned (.int .i64 8)/\AS w w':=by
 have hp:dz op=false:=aj;have hfl:cB op=false:=aj;have HI:=ah hI;clear hI;obtain rfl:op=41:=by omega
 clear h;go_enter func111,ntmps111;go_wp2_with fail;refine (C.reckons _ _ HI.out).mono ?_;rintro e u ⟨rfl,hb⟩;have HB:=ah hb;clear hb;rw [hp];go_wp2;go_ret;exact ⟨rfl,HB.out⟩
theorem Vd {I:AG->Prop} (C:fw I) (op:Int) (w:AG) (h:42<=op/\op<=42) (hI:I w):Calls prog 111 #[.int .i64 op] w λe w'=>e=.returned (.int .i64 10)/\AS w w':=by
 have hp:dz op=false:=aj;have hfl:cB op=true:=ay;have HI:=ah hI;clear hI;obtain rfl:op=42:=by omega
 clear h;go_enter func111,ntmps111;go_wp2_with fail;refine (C.reckons _ _ HI.out).mono ?_;rintro e u ⟨rfl,hb⟩;have HB:=ah hb;clear hb;rw [hp];go_wp2_with fail;refine (qq _ _).mono ?_;rintro e u ⟨rfl,rfl⟩;rw [hfl];go_wp2;go_ret;exact ⟨rfl,HB.out⟩
theorem Ve {I:AG->Prop} (C:fw I) (op:Int) (w:AG) (h:43<=op/\op<=43) (hI:I w):Calls prog 111 #[.int .i64 op] w λe w'=>e=.returned (.int .i64 10)/\AS w w':=by
 have hp:dz op=false:=aj;have hfl:cB op=true:=ay;have HI:=ah hI;clear hI;obtain rfl:op=43:=by omega
 clear h;go_enter func111,ntmps111;go_wp2_with fail;refine (C.reckons _ _ HI.out).mono ?_;rintro e u ⟨rfl,hb⟩;have HB:=ah hb;clear hb;rw [hp];go_wp2_with fail;refine (qq _ _).mono ?_;rintro e u ⟨rfl,rfl⟩;rw [hfl];go_wp2;go_ret;exact ⟨rfl,HB.out⟩
theorem Vf {I:AG->Prop} (C:fw I) (op:Int) (w:AG) (h:44<=op/\op<=55) (hI:I w):Calls prog 111 #[.int .i64 op] w λe w'=>e=.returned (.int .i64 8)/\AS w w':=by
 have hp:dz op=false:=aj;have hfl:cB op=false:=aj;have HI:=ah hI;clear hI;obtain ⟨q0,q1,iK,iL,iM,iN,iO,q2,q3,q4,iP,iQ,iR,q16,iS,iT,iU,iV,iW,_⟩:=AN op [0,1,15,26,27,63,64,2,3,4,12,13,14,16,17,40,41,65,66] (by simp;omega);have a32:decide ((32:Int)<=op)=true:=ay;have vV:decide (op<=(36:Int))=false:=aj;have qN:decide ((44:Int)<=op)=true:=ay;have yg:decide (op<=(55:Int))=true:=ay;have a58:decide ((58:Int)<=op)=false:=aj;clear h;go_enter func111,ntmps111;go_wp2_with fail;refine (C.reckons _ _ HI.out).mono ?_;rintro e u ⟨rfl,hb⟩;have HB:=ah hb;clear hb;rw [hp];go_wp2;go_ret;exact ⟨rfl,HB.out⟩
theorem Vg {I:AG->Prop} (C:fw I) (op:Int) (w:AG) (h:56<=op/\op<=56) (hI:I w):Calls prog 111 #[.int .i64 op] w λe w'=>e=.returned (.int .i64 10)/\AS w w':=by
 have hp:dz op=false:=aj;have hfl:cB op=true:=ay;have HI:=ah hI;clear hI;obtain rfl:op=56:=by omega
 clear h;go_enter func111,ntmps111;go_wp2_with fail;refine (C.reckons _ _ HI.out).mono ?_;rintro e u ⟨rfl,hb⟩;have HB:=ah hb;clear hb;rw [hp];go_wp2_with fail;refine (qq _ _).mono ?_;rintro e u ⟨rfl,rfl⟩;rw [hfl];go_wp2;go_ret;exact ⟨rfl,HB.out⟩
theorem Vh {I:AG->Prop} (C:fw I) (op:Int) (w:AG) (h:57<=op/\op<=57) (hI:I w):Calls prog 111 #[.int .i64 op] w λe w'=>e=.returned (.int .i64 10)/\AS w w':=by
 have hp:dz op=false:=aj;have hfl:cB op=true:=ay;have HI:=ah hI;clear hI;obtain rfl:op=57:=by omega
 clear h;go_enter func111,ntmps111;go_wp2_with fail;refine (C.reckons _ _ HI.out).mono ?_;rintro e u ⟨rfl,hb⟩;have HB:=ah hb;clear hb;rw [hp];go_wp2_with fail;refine (qq _ _).mono ?_;rintro e u ⟨rfl,rfl⟩;rw [hfl];go_wp2;go_ret;exact ⟨rfl,HB.out⟩
theorem Vi {I:AG->Prop} (C:fw I) (op:Int) (w:AG) (h:58<=op/\op<=62) (hI:I w):Calls prog 111 #[.int .i64 op] w λe w'=>e=.returned (.int .i64 8)/\AS w w':=by
 have hp:dz op=false:=aj;have hfl:cB op=false:=aj;have HI:=ah hI;clear hI;obtain ⟨q0,q1,iK,iL,iM,iN,iO,q2,q3,q4,iP,iQ,iR,q16,iS,iT,iU,iV,iW,_⟩:=AN op [0,1,15,26,27,63,64,2,3,4,12,13,14,16,17,40,41,65,66] (by simp;omega);have a32:decide ((32:Int)<=op)=true:=ay;have vV:decide (op<=(36:Int))=false:=aj;have qN:decide ((44:Int)<=op)=true:=ay;have yg:decide (op<=(55:Int))=false:=aj;have a58:decide ((58:Int)<=op)=true:=ay;have zw:decide (op<=(62:Int))=true:=ay;clear h;go_enter func111,ntmps111;go_wp2_with fail;refine (C.reckons _ _ HI.out).mono ?_;rintro e u ⟨rfl,hb⟩;have HB:=ah hb;clear hb;rw [hp];go_wp2;go_ret;exact ⟨rfl,HB.out⟩
theorem Vk {I:AG->Prop} (C:fw I) (op:Int) (w:AG) (h:63<=op/\op<=63) (hI:I w):Calls prog 111 #[.int .i64 op] w λe w'=>e=.returned (.int .i64 1)/\AS w w':=by
 have hp:dz op=false:=aj;have hfl:cB op=false:=aj;have HI:=ah hI;clear hI;obtain rfl:op=63:=by omega
 clear h;go_enter func111,ntmps111;go_wp2;go_ret;exact ⟨rfl,AC _ _⟩
theorem Vm {I:AG->Prop} (C:fw I) (op:Int) (w:AG) (h:64<=op/\op<=64) (hI:I w):Calls prog 111 #[.int .i64 op] w λe w'=>e=.returned (.int .i64 1)/\AS w w':=by
 have hp:dz op=false:=aj;have hfl:cB op=false:=aj;have HI:=ah hI;clear hI;obtain rfl:op=64:=by omega
 clear h;go_enter func111,ntmps111;go_wp2;go_ret;exact ⟨rfl,AC _ _⟩
theorem Vo {I:AG->Prop} (C:fw I) (op:Int) (w:AG) (h:65<=op/\op<=65) (hI:I w):Calls prog 111 #[.int .i64 op] w λe w'=>e=.returned (.int .i64 9)/\AS w w':=by
 have hp:dz op=false:=aj;have hfl:cB op=false:=aj;have HI:=ah hI;clear hI;obtain rfl:op=65:=by omega
 clear h;go_enter func111,ntmps111;go_wp2_with fail;refine (C.reckons _ _ HI.out).mono ?_;rintro e u ⟨rfl,hb⟩;have HB:=ah hb;clear hb;rw [hp];go_wp2;go_ret;exact ⟨rfl,HB.out⟩
theorem Vq {I:AG->Prop} (C:fw I) (op:Int) (w:AG) (h:66<=op/\op<=66) (hI:I w):Calls prog 111 #[.int .i64 op] w λe w'=>e=.returned (.int .i64 9)/\AS w w':=by
 have hp:dz op=false:=aj;have hfl:cB op=false:=aj;have HI:=ah hI;clear hI;obtain rfl:op=66:=by omega
 clear h;go_enter func111,ntmps111;go_wp2_with fail;refine (C.reckons _ _ HI.out).mono ?_;rintro e u ⟨rfl,hb⟩;have HB:=ah hb;clear hb;rw [hp];go_wp2;go_ret;exact ⟨rfl,HB.out⟩
theorem Vs {I:AG->Prop} (C:fw I) (op:Int) (w:AG) (h:67<=op/\op<=67) (hI:I w):Calls prog 111 #[.int .i64 op] w λe w'=>e=.returned (.int .i64 10)/\AS w w':=by
 have hp:dz op=false:=aj;have hfl:cB op=true:=ay;have HI:=ah hI;clear hI;obtain rfl:op=67:=by omega
 clear h;go_enter func111,ntmps111;go_wp2_with fail;refine (C.reckons _ _ HI.out).mono ?_;rintro e u ⟨rfl,hb⟩;have HB:=ah hb;clear hb;rw [hp];go_wp2_with fail;refine (qq _ _).mono ?_;rintro e u ⟨rfl,rfl⟩;rw [hfl];go_wp2;go_ret;exact ⟨rfl,HB.out⟩
theorem Vt {I:AG->Prop} (C:fw I) (op:Int) (w:AG) (h:68<=op/\op<=68) (hI:I w):Calls prog 111 #[.int .i64 op] w λe w'=>e=.returned (.int .i64 10)/\AS w w':=by
 have hp:dz op=false:=aj;have hfl:cB op=true:=ay;have HI:=ah hI;clear hI;obtain rfl:op=68:=by omega
 clear h;go_enter func111,ntmps111;go_wp2_with fail;refine (C.reckons _ _ HI.out).mono ?_;rintro e u ⟨rfl,hb⟩;have HB:=ah hb;clear hb;rw [hp];go_wp2_with fail;refine (qq _ _).mono ?_;rintro e u ⟨rfl,rfl⟩;rw [hfl];go_wp2;go_ret;exact ⟨rfl,HB.out⟩
theorem Vv {I:AG->Prop} (C:fw I) (op:Int) (w:AG) (h:69<=op/\op<=90) (hI:I w):Calls prog 111 #[.int .i64 op] w λe w'=>e=.returned (.int .i64 1)/\AS w w':=by
 have hp:dz op=true:=ay;have hfl:cB op=false:=aj;have HI:=ah hI;clear hI;obtain ⟨q0,q1,iK,iL,iM,iN,iO,q2,q3,q4,iP,iQ,iR,q16,iS,iT,iU,iV,iW,_⟩:=AN op [0,1,15,26,27,63,64,2,3,4,12,13,14,16,17,40,41,65,66] (by simp;omega);have a32:decide ((32:Int)<=op)=true:=ay;have vV:decide (op<=(36:Int))=false:=aj;have qN:decide ((44:Int)<=op)=true:=ay;have yg:decide (op<=(55:Int))=false:=aj;have a58:decide ((58:Int)<=op)=true:=ay;have zw:decide (op<=(62:Int))=false:=aj;clear h;go_enter func111,ntmps111;go_wp2_with fail;refine (C.reckons _ _ HI.out).mono ?_;rintro e u ⟨rfl,hb⟩;have HB:=ah hb;clear hb;rw [hp];go_wp2;go_ret;exact ⟨rfl,HB.out⟩
theorem Vx {I:AG->Prop} (C:fw I) (op:Int) (w:AG) (h:91<=op/\op<=102) (hI:I w):Calls prog 111 #[.int .i64 op] w λe w'=>e=.returned (.int .i64 10)/\AS w w':=by
 have hp:dz op=false:=aj;have hfl:cB op=true:=ay;have HI:=ah hI;clear hI;obtain ⟨q0,q1,iK,iL,iM,iN,iO,q2,q3,q4,iP,iQ,iR,q16,iS,iT,iU,iV,iW,_⟩:=AN op [0,1,15,26,27,63,64,2,3,4,12,13,14,16,17,40,41,65,66] (by simp;omega);have a32:decide ((32:Int)<=op)=true:=ay;have vV:decide (op<=(36:Int))=false:=aj;have qN:decide ((44:Int)<=op)=true:=ay;have yg:decide (op<=(55:Int))=false:=aj;have a58:decide ((58:Int)<=op)=true:=ay;have zw:decide (op<=(62:Int))=false:=aj;clear h;go_enter func111,ntmps111;go_wp2_with fail;refine (C.reckons _ _ HI.out).mono ?_;rintro e u ⟨rfl,hb⟩;have HB:=ah hb;clear hb;rw [hp];go_wp2_with fail;refine (qq _ _).mono ?_;rintro e u ⟨rfl,rfl⟩;rw [hfl];go_wp2;go_ret;exact ⟨rfl,HB.out⟩
theorem Vz {I:AG->Prop} (C:fw I) (op:Int) (w:AG) (h:103<=op/\op<=138) (hI:I w):Calls prog 111 #[.int .i64 op] w λe w'=>e=.returned (.int .i64 1)/\AS w w':=by
 have hp:dz op=true:=ay;have hfl:cB op=false:=aj;have HI:=ah hI;clear hI;obtain ⟨q0,q1,iK,iL,iM,iN,iO,q2,q3,q4,iP,iQ,iR,q16,iS,iT,iU,iV,iW,_⟩:=AN op [0,1,15,26,27,63,64,2,3,4,12,13,14,16,17,40,41,65,66] (by simp;omega);have a32:decide ((32:Int)<=op)=true:=ay;have vV:decide (op<=(36:Int))=false:=aj;have qN:decide ((44:Int)<=op)=true:=ay;have yg:decide (op<=(55:Int))=false:=aj;have a58:decide ((58:Int)<=op)=true:=ay;have zw:decide (op<=(62:Int))=false:=aj;clear h;go_enter func111,ntmps111;go_wp2_with fail;refine (C.reckons _ _ HI.out).mono ?_;rintro e u ⟨rfl,hb⟩;have HB:=ah hb;clear hb;rw [hp];go_wp2;go_ret;exact ⟨rfl,HB.out⟩
theorem VB {I:AG->Prop} (C:fw I) (op:Int) (w:AG) (h:139<=op/\op<=166) (hI:I w):Calls prog 111 #[.int .i64 op] w λe w'=>e=.returned (.int .i64 10)/\AS w w':=by
 have hp:dz op=false:=aj;have hfl:cB op=true:=ay;have HI:=ah hI;clear hI;obtain ⟨q0,q1,iK,iL,iM,iN,iO,q2,q3,q4,iP,iQ,iR,q16,iS,iT,iU,iV,iW,_⟩:=AN op [0,1,15,26,27,63,64,2,3,4,12,13,14,16,17,40,41,65,66] (by simp;omega);have a32:decide ((32:Int)<=op)=true:=ay;have vV:decide (op<=(36:Int))=false:=aj;have qN:decide ((44:Int)<=op)=true:=ay;have yg:decide (op<=(55:Int))=false:=aj;have a58:decide ((58:Int)<=op)=true:=ay;have zw:decide (op<=(62:Int))=false:=aj;clear h;go_enter func111,ntmps111;go_wp2_with fail;refine (C.reckons _ _ HI.out).mono ?_;rintro e u ⟨rfl,hb⟩;have HB:=ah hb;clear hb;rw [hp];go_wp2_with fail;refine (qq _ _).mono ?_;rintro e u ⟨rfl,rfl⟩;rw [hfl];go_wp2;go_ret;exact ⟨rfl,HB.out⟩
theorem VD {I:AG->Prop} (C:fw I) (op:Int) (w:AG) (h:167<=op/\op<=167) (hI:I w):Calls prog 111 #[.int .i64 op] w λe w'=>e=.returned (.int .i64 1)/\AS w w':=by
 have hp:dz op=true:=ay;have hfl:cB op=false:=aj;have HI:=ah hI;clear hI;obtain rfl:op=167:=by omega
 clear h;go_enter func111,ntmps111;go_wp2_with fail;refine (C.reckons _ _ HI.out).mono ?_;rintro e u ⟨rfl,hb⟩;have HB:=ah hb;clear hb;rw [hp];go_wp2;go_ret;exact ⟨rfl,HB.out⟩
theorem VF {I:AG->Prop} (C:fw I) (op:Int) (w:AG) (h:168<=op/\op<=171) (hI:I w):Calls prog 111 #[.int .i64 op] w λe w'=>e=.returned (.int .i64 10)/\AS w w':=by
 have hp:dz op=false:=aj;have hfl:cB op=true:=ay;have HI:=ah hI;clear hI;obtain ⟨q0,q1,iK,iL,iM,iN,iO,q2,q3,q4,iP,iQ,iR,q16,iS,iT,iU,iV,iW,_⟩:=AN op [0,1,15,26,27,63,64,2,3,4,12,13,14,16,17,40,41,65,66] (by simp;omega);have a32:decide ((32:Int)<=op)=true:=ay;have vV:decide (op<=(36:Int))=false:=aj;have qN:decide ((44:Int)<=op)=true:=ay;have yg:decide (op<=(55:Int))=false:=aj;have a58:decide ((58:Int)<=op)=true:=ay;have zw:decide (op<=(62:Int))=false:=aj;clear h;go_enter func111,ntmps111;go_wp2_with fail;refine (C.reckons _ _ HI.out).mono ?_;rintro e u ⟨rfl,hb⟩;have HB:=ah hb;clear hb;rw [hp];go_wp2_with fail;refine (qq _ _).mono ?_;rintro e u ⟨rfl,rfl⟩;rw [hfl];go_wp2;go_ret;exact ⟨rfl,HB.out⟩
theorem VH {I:AG->Prop} (C:fw I) (op:Int) (w:AG) (h:172<=op/\op<=173) (hI:I w):Calls prog 111 #[.int .i64 op] w λe w'=>e=.returned (.int .i64 1)/\AS w w':=by
 have hp:dz op=true:=ay;have hfl:cB op=false:=aj;have HI:=ah hI;clear hI;obtain ⟨q0,q1,iK,iL,iM,iN,iO,q2,q3,q4,iP,iQ,iR,q16,iS,iT,iU,iV,iW,_⟩:=AN op [0,1,15,26,27,63,64,2,3,4,12,13,14,16,17,40,41,65,66] (by simp;omega);have a32:decide ((32:Int)<=op)=true:=ay;have vV:decide (op<=(36:Int))=false:=aj;have qN:decide ((44:Int)<=op)=true:=ay;have yg:decide (op<=(55:Int))=false:=aj;have a58:decide ((58:Int)<=op)=true:=ay;have zw:decide (op<=(62:Int))=false:=aj;clear h;go_enter func111,ntmps111;go_wp2_with fail;refine (C.reckons _ _ HI.out).mono ?_;rintro e u ⟨rfl,hb⟩;have HB:=ah hb;clear hb;rw [hp];go_wp2;go_ret;exact ⟨rfl,HB.out⟩
theorem VK {I:AG->Prop} (C:fw I) (op:Int) (w:AG) (h:174<=op/\op<=191) (hI:I w):Calls prog 111 #[.int .i64 op] w λe w'=>e=.returned (.int .i64 10)/\AS w w':=by
 have hp:dz op=false:=aj;have hfl:cB op=true:=ay;have HI:=ah hI;clear hI;obtain ⟨q0,q1,iK,iL,iM,iN,iO,q2,q3,q4,iP,iQ,iR,q16,iS,iT,iU,iV,iW,_⟩:=AN op [0,1,15,26,27,63,64,2,3,4,12,13,14,16,17,40,41,65,66] (by simp;omega);have a32:decide ((32:Int)<=op)=true:=ay;have vV:decide (op<=(36:Int))=false:=aj;have qN:decide ((44:Int)<=op)=true:=ay;have yg:decide (op<=(55:Int))=false:=aj;have a58:decide ((58:Int)<=op)=true:=ay;have zw:decide (op<=(62:Int))=false:=aj;clear h;go_enter func111,ntmps111;go_wp2_with fail;refine (C.reckons _ _ HI.out).mono ?_;rintro e u ⟨rfl,hb⟩;have HB:=ah hb;clear hb;rw [hp];go_wp2_with fail;refine (qq _ _).mono ?_;rintro e u ⟨rfl,rfl⟩;rw [hfl];go_wp2;go_ret;exact ⟨rfl,HB.out⟩
theorem VL {I:AG->Prop} (C:fw I) (op:Int) (w:AG) (h:192<=op) (hI:I w):Calls prog 111 #[.int .i64 op] w λe w'=>e=.returned (.int .i64 0)/\AS w w':=by
 have hp:dz op=false:=aj;have hfl:cB op=false:=aj;have HI:=ah hI;clear hI;obtain ⟨q0,q1,iK,iL,iM,iN,iO,q2,q3,q4,iP,iQ,iR,q16,iS,iT,iU,iV,iW,_⟩:=AN op [0,1,15,26,27,63,64,2,3,4,12,13,14,16,17,40,41,65,66] (by simp;omega);have a32:decide ((32:Int)<=op)=true:=ay;have vV:decide (op<=(36:Int))=false:=aj;have qN:decide ((44:Int)<=op)=true:=ay;have yg:decide (op<=(55:Int))=false:=aj;have a58:decide ((58:Int)<=op)=true:=ay;have zw:decide (op<=(62:Int))=false:=aj;clear h;go_enter func111,ntmps111;go_wp2_with fail;refine (C.reckons _ _ HI.out).mono ?_;rintro e u ⟨rfl,hb⟩;have HB:=ah hb;clear hb;rw [hp];go_wp2_with fail;refine (qq _ _).mono ?_;rintro e u ⟨rfl,rfl⟩;rw [hfl];go_wp2;go_ret;exact ⟨rfl,HB.out⟩
theorem UM {I:AG->Prop} (C:fw I) (op:Int) (w:AG) (hI:I w):Calls prog 111 #[.int .i64 op] w λe w'=>e=.returned (.int .i64 (form op))/\AS w w':=by
 by_cases c0:op<=-1
 ·have e:form op=0:=by
   unfold form
   repeat first|rw [AD (by omega)]|rw [AE (by omega)]
  rw [e];exact UN C op w (by omega) hI
 by_cases c1:op<=0
 ·have e:form op=1:=by
   unfold form
   repeat first|rw [AD (by omega)]|rw [AE (by omega)]
  rw [e];exact UO C op w (by omega) hI
 by_cases c2:op<=1
 ·have e:form op=1:=by
   unfold form
   repeat first|rw [AD (by omega)]|rw [AE (by omega)]
  rw [e];exact UQ C op w (by omega) hI
 by_cases c3:op<=2
 ·have e:form op=2:=by
   unfold form
   repeat first|rw [AD (by omega)]|rw [AE (by omega)]
  rw [e];exact UR C op w (by omega) hI
 by_cases c4:op<=3
 ·have e:form op=2:=by
   unfold form
   repeat first|rw [AD (by omega)]|rw [AE (by omega)]
  rw [e];exact UT C op w (by omega) hI
 by_cases c5:op<=4
 ·have e:form op=3:=by
   unfold form
   repeat first|rw [AD (by omega)]|rw [AE (by omega)]
  rw [e];exact UU C op w (by omega) hI
 by_cases c6:op<=11
 ·have e:form op=0:=by
   unfold form
   repeat first|rw [AD (by omega)]|rw [AE (by omega)]
  rw [e];exact UW C op w (by omega) hI
 by_cases c7:op<=12
 ·have e:form op=4:=by
   unfold form
   repeat first|rw [AD (by omega)]|rw [AE (by omega)]
  rw [e];exact UX C op w (by omega) hI
 by_cases c8:op<=13
 ·have e:form op=4:=by
   unfold form
   repeat first|rw [AD (by omega)]|rw [AE (by omega)]
  rw [e];exact UY C op w (by omega) hI
 by_cases c9:op<=14
 ·have e:form op=5:=by
   unfold form
   repeat first|rw [AD (by omega)]|rw [AE (by omega)]
  rw [e];exact UZ C op w (by omega) hI
 by_cases c10:op<=15
 ·have e:form op=1:=by
   unfold form
   repeat first|rw [AD (by omega)]|rw [AE (by omega)]
  rw [e];exact U0 C op w (by omega) hI
 by_cases c11:op<=16
 ·have e:form op=6:=by
   unfold form
   repeat first|rw [AD (by omega)]|rw [AE (by omega)]
  rw [e];exact U1 C op w (by omega) hI
 by_cases c12:op<=17
 ·have e:form op=7:=by
   unfold form
   repeat first|rw [AD (by omega)]|rw [AE (by omega)]
  rw [e];exact U2 C op w (by omega) hI
 by_cases c13:op<=25
 ·have e:form op=0:=by
   unfold form
   repeat first|rw [AD (by omega)]|rw [AE (by omega)]
  rw [e];exact U3 C op w (by omega) hI
 by_cases c14:op<=26
 ·have e:form op=1:=by
   unfold form
   repeat first|rw [AD (by omega)]|rw [AE (by omega)]
  rw [e];exact U4 C op w (by omega) hI
 by_cases c15:op<=27
 ·have e:form op=1:=by
   unfold form
   repeat first|rw [AD (by omega)]|rw [AE (by omega)]
  rw [e];exact U5 C op w (by omega) hI
 by_cases c16:op<=31
 ·have e:form op=0:=by
   unfold form
   repeat first|rw [AD (by omega)]|rw [AE (by omega)]
  rw [e];exact U6 C op w (by omega) hI
 by_cases c17:op<=36
 ·have e:form op=6:=by
   unfold form
   repeat first|rw [AD (by omega)]|rw [AE (by omega)]
  rw [e];exact U7 C op w (by omega) hI
 by_cases c18:op<=39
 ·have e:form op=0:=by
   unfold form
   repeat first|rw [AD (by omega)]|rw [AE (by omega)]
  rw [e];exact U8 C op w (by omega) hI
 by_cases c19:op<=40
 ·have e:form op=8:=by
   unfold form
   repeat first|rw [AD (by omega)]|rw [AE (by omega)]
  rw [e];exact U9 C op w (by omega) hI
 by_cases Va:op<=41
 ·have e:form op=8:=by
   unfold form
   repeat first|rw [AD (by omega)]|rw [AE (by omega)]
  rw [e];exact Vb C op w (by omega) hI
 by_cases c21:op<=42
 ·have e:form op=10:=by
   unfold form
   repeat first|rw [AD (by omega)]|rw [AE (by omega)]
  rw [e];exact Vd C op w (by omega) hI
 by_cases Di:op<=43
 ·have e:form op=10:=by
   unfold form
   repeat first|rw [AD (by omega)]|rw [AE (by omega)]
  rw [e];exact Ve C op w (by omega) hI
 by_cases IZ:op<=55
 ·have e:form op=8:=by
   unfold form
   repeat first|rw [AD (by omega)]|rw [AE (by omega)]
  rw [e];exact Vf C op w (by omega) hI
 by_cases I3:op<=56
 ·have e:form op=10:=by
   unfold form
   repeat first|rw [AD (by omega)]|rw [AE (by omega)]
  rw [e];exact Vg C op w (by omega) hI
 by_cases IG:op<=57
 ·have e:form op=10:=by
   unfold form
   repeat first|rw [AD (by omega)]|rw [AE (by omega)]
  rw [e];exact Vh C op w (by omega) hI
 by_cases BK:op<=62
 ·have e:form op=8:=by
   unfold form
   repeat first|rw [AD (by omega)]|rw [AE (by omega)]
  rw [e];exact Vi C op w (by omega) hI
 by_cases Vj:op<=63
 ·have e:form op=1:=by
   unfold form
   repeat first|rw [AD (by omega)]|rw [AE (by omega)]
  rw [e];exact Vk C op w (by omega) hI
 by_cases Vl:op<=64
 ·have e:form op=1:=by
   unfold form
   repeat first|rw [AD (by omega)]|rw [AE (by omega)]
  rw [e];exact Vm C op w (by omega) hI
 by_cases Vn:op<=65
 ·have e:form op=9:=by
   unfold form
   repeat first|rw [AD (by omega)]|rw [AE (by omega)]
  rw [e];exact Vo C op w (by omega) hI
 by_cases Vp:op<=66
 ·have e:form op=9:=by
   unfold form
   repeat first|rw [AD (by omega)]|rw [AE (by omega)]
  rw [e];exact Vq C op w (by omega) hI
 by_cases Vr:op<=67
 ·have e:form op=10:=by
   unfold form
   repeat first|rw [AD (by omega)]|rw [AE (by omega)]
  rw [e];exact Vs C op w (by omega) hI
 by_cases c32:op<=68
 ·have e:form op=10:=by
   unfold form
   repeat first|rw [AD (by omega)]|rw [AE (by omega)]
  rw [e];exact Vt C op w (by omega) hI
 by_cases Vu:op<=90
 ·have e:form op=1:=by
   unfold form
   repeat first|rw [AD (by omega)]|rw [AE (by omega)]
  rw [e];exact Vv C op w (by omega) hI
 by_cases Vw:op<=102
 ·have e:form op=10:=by
   unfold form
   repeat first|rw [AD (by omega)]|rw [AE (by omega)]
  rw [e];exact Vx C op w (by omega) hI
 by_cases Vy:op<=138
 ·have e:form op=1:=by
   unfold form
   repeat first|rw [AD (by omega)]|rw [AE (by omega)]
  rw [e];exact Vz C op w (by omega) hI
 by_cases VA:op<=166
 ·have e:form op=10:=by
   unfold form
   repeat first|rw [AD (by omega)]|rw [AE (by omega)]
  rw [e];exact VB C op w (by omega) hI
 by_cases VC:op<=167
 ·have e:form op=1:=by
   unfold form
   repeat first|rw [AD (by omega)]|rw [AE (by omega)]
  rw [e];exact VD C op w (by omega) hI
 by_cases VE:op<=171
 ·have e:form op=10:=by
   unfold form
   repeat first|rw [AD (by omega)]|rw [AE (by omega)]
  rw [e];exact VF C op w (by omega) hI
 by_cases VG:op<=173
 ·have e:form op=1:=by
   unfold form
   repeat first|rw [AD (by omega)]|rw [AE (by omega)]
  rw [e];exact VH C op w (by omega) hI
 by_cases VJ:op<=191
 ·have e:form op=10:=by
   unfold form
   repeat first|rw [AD (by omega)]|rw [AE (by omega)]
  rw [e];exact VK C op w (by omega) hI
 have e:form op=0:=by
  unfold form
  repeat rw [AD (by omega)]
 rw [e];exact VL C op w (by omega) hI
end Go.Proofs.YtcfifbgemfladaaGreatDoor
namespace Go.Proofs.YtcfifbgemfladaaGreatDoor
open Go.RowKit au
set_option linter.unusedVariables false
namespace au
structure afn {d:Nat} (v3 v4:Value) (m:Mod d):Prop where
 deep:d<=4611686018427387904
 aA:∀x ∈ m.aA,x.bytes.size<=9223372036854775807
 texts:BO m
 tables:∀n c,v3=.slice none n c->c=0
 aF:∀n c,v4=.slice none n c->c=0
end au
end Go.Proofs.YtcfifbgemfladaaGreatDoor
namespace Go.Proofs.YtcfifbgemfladaaGreatDoor
open Go.RowKit au Enc Go.Lib
set_option linter.unusedVariables false
set_option maxHeartbeats 1000000
namespace Enc
def Gj (bs:List Int):AH:=if 262144<bs.length then ⟨#[]⟩ else strOfNums bs
def Jr (bs:List Int):Int:=if 262144<bs.length then 2 else 0
theorem Jq (bs:List Int):told bs=.tuple #[.string (Gj bs),.int .i64 (Jr bs)]:=by
 unfold told Gj Jr;split<;>rfl
section
variable {w0 w w':AG} {p:Nat} {c:Nat->Value} {v:Value} {b:List Int}
end
def BU {d:Nat} (m:Mod d):Value:=if ny m=0 then told (mR m) else .tuple #[.string ⟨#[]⟩,.int .i64 (ny m)]
end Enc
namespace Enc
def yZ (n:Int):Prop:=0<=n/\n<=255
theorem Af {n:Int} (h:typ n=true):n=126\/n=127:=of_decide_eq_true h
theorem FQ {n:Int} (h:typ n=true):yZ n:=by have:=Af h;unfold yZ;omega
def VI:(d:Nat)->IL d->Prop
 | 0,_=>True
 | d+1,l=>∀x,x ∈ (show List (Ins (IL d)) from l)->nO (sn x)=true/\VI d x.body/\VI d x.els
theorem IC:∀(d:Nat) (l:IL d) (k:Nat),lj sZ d l k ()=some ()->VI d l
 | 0,_,_,_=>trivial
 | d+1,l,k,hF=>by
  intro x hx;obtain ⟨f1,f2,f3⟩:=wJ (show List (Ins (IL d)) from l) hF x hx;refine ⟨?_,IC d x.body (k+1) f2,IC d x.els (k+1) f3⟩;unfold sZ at f1;by_cases h:nO (sn x)=true
  ·exact h
  rw [AD h] at f1;cases f1
theorem Da:∀(d:Nat) (l k:IL d),size d l=0->size d k=0->l=k
 | 0,_,_,_,_=>rfl
 | d+1,l,k,h1,h2=>by
  have e1:(show List (Ins (IL d)) from l) = []:=iZ.1 h1;have e2:(show List (Ins (IL d)) from k) = []:=iZ.1 h2;exact e1.trans e2.symm
theorem afi:∀(d:Nat) (l:IL d),size d l=0->VI d l
 | 0,_,_=>trivial
 | d+1,l,h=>by
  intro x hx;have e1:(show List (Ins (IL d)) from l) = []:=iZ.1 h;rw [e1] at hx;cases hx
theorem Mf:∀(d:Nat) (l:IL d),size d l=0->aW d l = []
 | 0,_,_=>rfl
 | d+1,l,h=>by
  have e1:(show List (Ins (IL d)) from l) = []:=iZ.1 h;show mF (aW d) (size d) (show List (Ins (IL d)) from l) = [];rw [e1];rfl
theorem Ut (op:Int) (h1:1<=form op) (h2:form op<=9):0<=op/\op<=255/\op≠5/\op≠11:=by
 by_cases h:0<=op/\op<=255/\op≠5/\op≠11
 ·exact h
 exfalso
 have:op<0\/191<op\/op=5\/op=11:=by omega
 rcases this with h|h|rfl|rfl
 ·unfold form at h1;rw [AE (by omega)] at h1;omega
 ·unfold form at h1
  repeat rw [AD (by omega)] at h1
  omega
 ·revert h1;decide
 revert h1;decide
structure Ib {d:Nat} (x:Ins (IL d)):Prop where
 fm:1<=form x.op/\form x.op<=9
 a:form x.op=1\/form x.op=9->x.a=0
 a2:form x.op=2\/form x.op=3->x.a=0\/x.a=126\/x.a=127
 a4:4<=form x.op->form x.op<=8->0<=x.a
 b:form x.op≠8->x.b=0
 b8:form x.op=8->0<=x.b
 n:form x.op≠9->x.n=0
 labels:form x.op≠5->x.labels = []
 l5:form x.op=5->∀y ∈ x.labels,0<=y
 body:form x.op≠2->form x.op≠3->size d x.body=0
 els:form x.op≠3->size d x.els=0
theorem Ag {a b n:Int} {nl nb ne:Nat} (h:bV a b n nl nb ne=true):a=0/\b=0/\n=0/\nl=0/\nb=0/\ne=0:=of_decide_eq_true h
theorem MS {a:Int} (h:res a=true):a=0\/a=126\/a=127:=by
 unfold res at h;rcases Bool.or_eq_true_iff.1 h with h|h
 ·exact .inl (of_decide_eq_true h)
 exact .inr (Af h)
theorem FD {d:Nat} {x:Ins (IL d)} (h:nO (sn x)=true):Ib x:=by
 have h':okF (form x.op) x.op x.a x.b x.n x.labels (size d x.body) (size d x.els)=true:=h;unfold okF at h';have l0:∀ {l:List Int},l.length=0->l = []:=λh=>iZ.1 h;by_cases f1:form x.op=1
 ·rw [AE f1] at h';obtain ⟨h1,h2,h3,h4,h5,h6⟩:=Ag h';exact ⟨by omega,λ_=>h1,λh=>by omega,λh=>by omega,λ_=>h2,λh=>by omega,λ_=>h3,λ_=>l0 h4,λh=>by omega,λ_ _=>h5,λ_=>h6⟩
 rw [AD f1] at h';by_cases f2:form x.op=2
 ·rw [AE f2,bH] at h';obtain ⟨h1,h2,h3,h4,h5,h6⟩:=Ag h'.2;exact ⟨by omega,λh=>by omega,λ_=>MS h'.1,λh=>by omega,λ_=>h2,λh=>by omega,λ_=>h3,λ_=>l0 h4,λh=>by omega,λh=>absurd f2 h,λ_=>h6⟩
 rw [AD f2] at h';by_cases f3:form x.op=3
 ·rw [AE f3,bH] at h';obtain ⟨h1,h2,h3,h4,h5,h6⟩:=Ag h'.2;exact ⟨by omega,λh=>by omega,λ_=>MS h'.1,λh=>by omega,λ_=>h2,λh=>by omega,λ_=>h3,λ_=>l0 h4,λh=>by omega,λ_ h=>absurd f3 h,λh=>absurd f3 h⟩
 rw [AD f3] at h';by_cases f4:form x.op=4\/form x.op=6\/form x.op=7
 ·rw [AE f4,bH] at h';obtain ⟨h1,h2,h3,h4,h5,h6⟩:=Ag h'.2;exact ⟨by omega,λh=>by omega,λh=>by omega,λ_ _=>(iH h'.1).1,λ_=>h2,λh=>by omega,λ_=>h3,λ_=>l0 h4,λh=>by omega,λ_ _=>h5,λ_=>h6⟩
 rw [AD f4] at h';by_cases f5:form x.op=5
 ·rw [AE f5,bH,bH] at h';obtain ⟨h1,h2,h3,h4,h5,h6⟩:=Ag h'.2;exact ⟨by omega,λh=>by omega,λh=>by omega,λ_ _=>(iH h'.1.1).1,λ_=>h2,λh=>by omega,λ_=>h3,λh=>absurd f5 h,λ_ y hy=>(iH (dN.1 h'.1.2 y hy)).1,λ_ _=>h5,λ_=>h6⟩
 rw [AD f5] at h';by_cases f8:form x.op=8
 ·rw [AE f8,bH,bH] at h';obtain ⟨h1,h2,h3,h4,h5,h6⟩:=Ag h'.2;exact ⟨by omega,λh=>by omega,λh=>by omega,λ_ _=>(iH h'.1.1).1,λh=>absurd f8 h,λ_=>(iH h'.1.2).1,λ_=>h3,λ_=>l0 h4,λh=>by omega,λ_ _=>h5,λ_=>h6⟩
 rw [AD f8] at h';by_cases f9:form x.op=9
 ·rw [AE f9,bH] at h';obtain ⟨h1,h2,h3,h4,h5,h6⟩:=Ag h'.2;exact ⟨by omega,λ_=>h1,λh=>by omega,λh=>by omega,λ_=>h2,λh=>by omega,λh=>absurd f9 h,λ_=>l0 h4,λh=>by omega,λ_ _=>h5,λ_=>h6⟩
 rw [AD f9] at h';cases h'
theorem MU {d:Nat} {x y:Ins (IL d)} (h1:x.op=y.op) (h2:x.a=y.a) (h3:x.b=y.b) (h4:x.n=y.n) (h5:x.labels=y.labels) (h6:x.body=y.body) (h7:x.els=y.els):x=y:=by
 cases x;cases y;simp only at *;subst h1 h2 h3 h4 h5 h6 h7;rfl
def qK {α:Type} (rec:α->List Int) (sz:α->Nat) (x:Ins α):List Int :=
 (if form x.op=1 then (if x.op=63\/x.op=64 then [0] else [])
  else if form x.op=2\/form x.op=3 then (if x.a=0 then [64] else [x.a%256])++rec x.body++(if 0<sz x.els then [5]++rec x.els else [])++[11]
  else if form x.op=4\/form x.op=6 then af.uB x.a
  else if form x.op=5 then mY x.labels++af.uB x.a
  else if form x.op=7 then af.uB x.a++[0]
  else if form x.op=8 then af.uB x.a++af.uB x.b
  else if form x.op=9 then af.sB x.n else [])
theorem Uu {α:Type} (rec:α->List Int) (sz:α->Nat) (x:Ins α):fS rec sz x=(x.op%256) :: qK rec sz x:=rfl
end Enc
end Go.Proofs.YtcfifbgemfladaaGreatDoor
