/- Texts that the claim needs. -/
import Derived.Test.YtmfcojpjpgldhaaGreatDoorQEBy38
namespace Go.Proofs.YtmfcojpjpgldhaaGreatDoor
open Go.RowKit aA Go.Proofs.Tryz
set_option linter.unusedVariables false
set_option maxHeartbeats 1000000
theorem QW {I:World->Prop} (C:gh I) (op:Int) (w:World) (h:26<=op/\op<=26) (hI:I w):Calls prog 73 #[.int .i64 op] w λe w'=>e=.returned (.int .i64 1)/\Below w.heap.size w w':=by
 have hp:eu op=false:=au (by omega);have hfl:dm op=false:=au (by omega);have HI:=ag hI;clear hI;obtain rfl:op=26:=by omega
 clear h;go_enter func73,ntmps73;go_wp2;go_ret;exact ⟨rfl,Below.refl _ _⟩
theorem QX {I:World->Prop} (C:gh I) (op:Int) (w:World) (h:27<=op/\op<=27) (hI:I w):Calls prog 73 #[.int .i64 op] w λe w'=>e=.returned (.int .i64 1)/\Below w.heap.size w w':=by
 have hp:eu op=false:=au (by omega);have hfl:dm op=false:=au (by omega);have HI:=ag hI;clear hI;obtain rfl:op=27:=by omega
 clear h;go_enter func73,ntmps73;go_wp2;go_ret;exact ⟨rfl,Below.refl _ _⟩
theorem QY {I:World->Prop} (C:gh I) (op:Int) (w:World) (h:28<=op/\op<=31) (hI:I w):Calls prog 73 #[.int .i64 op] w λe w'=>e=.returned (.int .i64 0)/\Below w.heap.size w w':=by
 have hp:eu op=false:=au (by omega);have hfl:dm op=false:=au (by omega);have HI:=ag hI;clear hI;have q0:(op==0)=false:=ah (by omega);have q1:(op==1)=false:=ah (by omega);have jg:(op==15)=false:=ah (by omega);have jh:(op==26)=false:=ah (by omega);have ji:(op==27)=false:=ah (by omega);have jk:(op==63)=false:=ah (by omega);have jl:(op==64)=false:=ah (by omega);have q2:(op==2)=false:=ah (by omega);have q3:(op==3)=false:=ah (by omega);have q4:(op==4)=false:=ah (by omega);have jm:(op==12)=false:=ah (by omega);have jo:(op==13)=false:=ah (by omega);have jq:(op==14)=false:=ah (by omega);have q16:(op==16)=false:=ah (by omega);have jr:(op==17)=false:=ah (by omega);have ju:(op==40)=false:=ah (by omega);have jv:(op==41)=false:=ah (by omega);have jw:(op==65)=false:=ah (by omega);have jy:(op==66)=false:=ah (by omega);have a32:decide ((32:Int)<=op)=false:=au (by omega);have qD:decide ((44:Int)<=op)=false:=au (by omega);have a58:decide ((58:Int)<=op)=false:=au (by omega);clear h;go_enter func73,ntmps73;go_wp2_with fail;refine (C.reckons _ _ HI.out).mono ?_;rintro e u ⟨rfl,hb⟩;have HB:=ag hb;clear hb;rw [hp];go_wp2_with fail;refine (qc _ _).mono ?_;rintro e u ⟨rfl,rfl⟩;rw [hfl];go_wp2;go_ret;exact ⟨rfl,HB.out⟩
theorem QZ {I:World->Prop} (C:gh I) (op:Int) (w:World) (h:32<=op/\op<=36) (hI:I w):Calls prog 73 #[.int .i64 op] w λe w'=>e=.returned (.int .i64 6)/\Below w.heap.size w w':=by
 have hp:eu op=false:=au (by omega);have hfl:dm op=false:=au (by omega);have HI:=ag hI;clear hI;have q0:(op==0)=false:=ah (by omega);have q1:(op==1)=false:=ah (by omega);have jg:(op==15)=false:=ah (by omega);have jh:(op==26)=false:=ah (by omega);have ji:(op==27)=false:=ah (by omega);have jk:(op==63)=false:=ah (by omega);have jl:(op==64)=false:=ah (by omega);have q2:(op==2)=false:=ah (by omega);have q3:(op==3)=false:=ah (by omega);have q4:(op==4)=false:=ah (by omega);have jm:(op==12)=false:=ah (by omega);have jo:(op==13)=false:=ah (by omega);have jq:(op==14)=false:=ah (by omega);have q16:(op==16)=false:=ah (by omega);have jr:(op==17)=false:=ah (by omega);have ju:(op==40)=false:=ah (by omega);have jv:(op==41)=false:=ah (by omega);have jw:(op==65)=false:=ah (by omega);have jy:(op==66)=false:=ah (by omega);have a32:decide ((32:Int)<=op)=true:=aC (by omega);have uO:decide (op<=(36:Int))=true:=aC (by omega);have qD:decide ((44:Int)<=op)=false:=au (by omega);have a58:decide ((58:Int)<=op)=false:=au (by omega);clear h;go_enter func73,ntmps73;go_wp2_with fail;refine (C.reckons _ _ HI.out).mono ?_;rintro e u ⟨rfl,hb⟩;have HB:=ag hb;clear hb;rw [hp];go_wp2;go_ret;exact ⟨rfl,HB.out⟩
theorem Q0 {I:World->Prop} (C:gh I) (op:Int) (w:World) (h:37<=op/\op<=39) (hI:I w):Calls prog 73 #[.int .i64 op] w λe w'=>e=.returned (.int .i64 0)/\Below w.heap.size w w':=by
 have hp:eu op=false:=au (by omega);have hfl:dm op=false:=au (by omega);have HI:=ag hI;clear hI;have q0:(op==0)=false:=ah (by omega);have q1:(op==1)=false:=ah (by omega);have jg:(op==15)=false:=ah (by omega);have jh:(op==26)=false:=ah (by omega);have ji:(op==27)=false:=ah (by omega);have jk:(op==63)=false:=ah (by omega);have jl:(op==64)=false:=ah (by omega);have q2:(op==2)=false:=ah (by omega);have q3:(op==3)=false:=ah (by omega);have q4:(op==4)=false:=ah (by omega);have jm:(op==12)=false:=ah (by omega);have jo:(op==13)=false:=ah (by omega);have jq:(op==14)=false:=ah (by omega);have q16:(op==16)=false:=ah (by omega);have jr:(op==17)=false:=ah (by omega);have ju:(op==40)=false:=ah (by omega);have jv:(op==41)=false:=ah (by omega);have jw:(op==65)=false:=ah (by omega);have jy:(op==66)=false:=ah (by omega);have a32:decide ((32:Int)<=op)=true:=aC (by omega);have uO:decide (op<=(36:Int))=false:=au (by omega);have qD:decide ((44:Int)<=op)=false:=au (by omega);have a58:decide ((58:Int)<=op)=false:=au (by omega);clear h;go_enter func73,ntmps73;go_wp2_with fail;refine (C.reckons _ _ HI.out).mono ?_;rintro e u ⟨rfl,hb⟩;have HB:=ag hb;clear hb;rw [hp];go_wp2_with fail;refine (qc _ _).mono ?_;rintro e u ⟨rfl,rfl⟩;rw [hfl];go_wp2;go_ret;exact ⟨rfl,HB.out⟩
theorem Q3 {I:World->Prop} (C:gh I) (op:Int) (w:World) (h:40<=op/\op<=40) (hI:I w):Calls prog 73 #[.int .i64 op] w λe w'=>e=.returned (.int .i64 8)/\Below w.heap.size w w':=by
 have hp:eu op=false:=au (by omega);have hfl:dm op=false:=au (by omega);have HI:=ag hI;clear hI;obtain rfl:op=40:=by omega
 clear h;go_enter func73,ntmps73;go_wp2_with fail;refine (C.reckons _ _ HI.out).mono ?_;rintro e u ⟨rfl,hb⟩;have HB:=ag hb;clear hb;rw [hp];go_wp2;go_ret;exact ⟨rfl,HB.out⟩
theorem Q4 {I:World->Prop} (C:gh I) (op:Int) (w:World) (h:41<=op/\op<=41) (hI:I w):Calls prog 73 #[.int .i64 op] w λe w'=>e=.returned (.int .i64 8)/\Below w.heap.size w w':=by
 have hp:eu op=false:=au (by omega);have hfl:dm op=false:=au (by omega);have HI:=ag hI;clear hI;obtain rfl:op=41:=by omega
 clear h;go_enter func73,ntmps73;go_wp2_with fail;refine (C.reckons _ _ HI.out).mono ?_;rintro e u ⟨rfl,hb⟩;have HB:=ag hb;clear hb;rw [hp];go_wp2;go_ret;exact ⟨rfl,HB.out⟩
theorem Q5 {I:World->Prop} (C:gh I) (op:Int) (w:World) (h:42<=op/\op<=42) (hI:I w):Calls prog 73 #[.int .i64 op] w λe w'=>e=.returned (.int .i64 10)/\Below w.heap.size w w':=by
 have hp:eu op=false:=au (by omega);have hfl:dm op=true:=aC (by omega);have HI:=ag hI;clear hI;obtain rfl:op=42:=by omega
 clear h;go_enter func73,ntmps73;go_wp2_with fail;refine (C.reckons _ _ HI.out).mono ?_;rintro e u ⟨rfl,hb⟩;have HB:=ag hb;clear hb;rw [hp];go_wp2_with fail;refine (qc _ _).mono ?_;rintro e u ⟨rfl,rfl⟩;rw [hfl];go_wp2;go_ret;exact ⟨rfl,HB.out⟩
theorem Q7 {I:World->Prop} (C:gh I) (op:Int) (w:World) (h:43<=op/\op<=43) (hI:I w):Calls prog 73 #[.int .i64 op] w λe w'=>e=.returned (.int .i64 10)/\Below w.heap.size w w':=by
 have hp:eu op=false:=au (by omega);have hfl:dm op=true:=aC (by omega);have HI:=ag hI;clear hI;obtain rfl:op=43:=by omega
 clear h;go_enter func73,ntmps73;go_wp2_with fail;refine (C.reckons _ _ HI.out).mono ?_;rintro e u ⟨rfl,hb⟩;have HB:=ag hb;clear hb;rw [hp];go_wp2_with fail;refine (qc _ _).mono ?_;rintro e u ⟨rfl,rfl⟩;rw [hfl];go_wp2;go_ret;exact ⟨rfl,HB.out⟩
theorem Q9 {I:World->Prop} (C:gh I) (op:Int) (w:World) (h:44<=op/\op<=55) (hI:I w):Calls prog 73 #[.int .i64 op] w λe w'=>e=.returned (.int .i64 8)/\Below w.heap.size w w':=by
 have hp:eu op=false:=au (by omega);have hfl:dm op=false:=au (by omega);have HI:=ag hI;clear hI;have q0:(op==0)=false:=ah (by omega);have q1:(op==1)=false:=ah (by omega);have jg:(op==15)=false:=ah (by omega);have jh:(op==26)=false:=ah (by omega);have ji:(op==27)=false:=ah (by omega);have jk:(op==63)=false:=ah (by omega);have jl:(op==64)=false:=ah (by omega);have q2:(op==2)=false:=ah (by omega);have q3:(op==3)=false:=ah (by omega);have q4:(op==4)=false:=ah (by omega);have jm:(op==12)=false:=ah (by omega);have jo:(op==13)=false:=ah (by omega);have jq:(op==14)=false:=ah (by omega);have q16:(op==16)=false:=ah (by omega);have jr:(op==17)=false:=ah (by omega);have ju:(op==40)=false:=ah (by omega);have jv:(op==41)=false:=ah (by omega);have jw:(op==65)=false:=ah (by omega);have jy:(op==66)=false:=ah (by omega);have a32:decide ((32:Int)<=op)=true:=aC (by omega);have uO:decide (op<=(36:Int))=false:=au (by omega);have qD:decide ((44:Int)<=op)=true:=aC (by omega);have xz:decide (op<=(55:Int))=true:=aC (by omega);have a58:decide ((58:Int)<=op)=false:=au (by omega);clear h;go_enter func73,ntmps73;go_wp2_with fail;refine (C.reckons _ _ HI.out).mono ?_;rintro e u ⟨rfl,hb⟩;have HB:=ag hb;clear hb;rw [hp];go_wp2;go_ret;exact ⟨rfl,HB.out⟩
theorem Rb {I:World->Prop} (C:gh I) (op:Int) (w:World) (h:56<=op/\op<=56) (hI:I w):Calls prog 73 #[.int .i64 op] w λe w'=>e=.returned (.int .i64 10)/\Below w.heap.size w w':=by
 have hp:eu op=false:=au (by omega);have hfl:dm op=true:=aC (by omega);have HI:=ag hI;clear hI;obtain rfl:op=56:=by omega
 clear h;go_enter func73,ntmps73;go_wp2_with fail;refine (C.reckons _ _ HI.out).mono ?_;rintro e u ⟨rfl,hb⟩;have HB:=ag hb;clear hb;rw [hp];go_wp2_with fail;refine (qc _ _).mono ?_;rintro e u ⟨rfl,rfl⟩;rw [hfl];go_wp2;go_ret;exact ⟨rfl,HB.out⟩
theorem Re {I:World->Prop} (C:gh I) (op:Int) (w:World) (h:57<=op/\op<=57) (hI:I w):Calls prog 73 #[.int .i64 op] w λe w'=>e=.returned (.int .i64 10)/\Below w.heap.size w w':=by
 have hp:eu op=false:=au (by omega);have hfl:dm op=true:=aC (by omega);have HI:=ag hI;clear hI;obtain rfl:op=57:=by omega
 clear h;go_enter func73,ntmps73;go_wp2_with fail;refine (C.reckons _ _ HI.out).mono ?_;rintro e u ⟨rfl,hb⟩;have HB:=ag hb;clear hb;rw [hp];go_wp2_with fail;refine (qc _ _).mono ?_;rintro e u ⟨rfl,rfl⟩;rw [hfl];go_wp2;go_ret;exact ⟨rfl,HB.out⟩
theorem Rh {I:World->Prop} (C:gh I) (op:Int) (w:World) (h:58<=op/\op<=62) (hI:I w):Calls prog 73 #[.int .i64 op] w λe w'=>e=.returned (.int .i64 8)/\Below w.heap.size w w':=by
 have hp:eu op=false:=au (by omega);have hfl:dm op=false:=au (by omega);have HI:=ag hI;clear hI;have q0:(op==0)=false:=ah (by omega);have q1:(op==1)=false:=ah (by omega);have jg:(op==15)=false:=ah (by omega);have jh:(op==26)=false:=ah (by omega);have ji:(op==27)=false:=ah (by omega);have jk:(op==63)=false:=ah (by omega);have jl:(op==64)=false:=ah (by omega);have q2:(op==2)=false:=ah (by omega);have q3:(op==3)=false:=ah (by omega);have q4:(op==4)=false:=ah (by omega);have jm:(op==12)=false:=ah (by omega);have jo:(op==13)=false:=ah (by omega);have jq:(op==14)=false:=ah (by omega);have q16:(op==16)=false:=ah (by omega);have jr:(op==17)=false:=ah (by omega);have ju:(op==40)=false:=ah (by omega);have jv:(op==41)=false:=ah (by omega);have jw:(op==65)=false:=ah (by omega);have jy:(op==66)=false:=ah (by omega);have a32:decide ((32:Int)<=op)=true:=aC (by omega);have uO:decide (op<=(36:Int))=false:=au (by omega);have qD:decide ((44:Int)<=op)=true:=aC (by omega);have xz:decide (op<=(55:Int))=false:=au (by omega);have a58:decide ((58:Int)<=op)=true:=aC (by omega);have yN:decide (op<=(62:Int))=true:=aC (by omega);clear h;go_enter func73,ntmps73;go_wp2_with fail;refine (C.reckons _ _ HI.out).mono ?_;rintro e u ⟨rfl,hb⟩;have HB:=ag hb;clear hb;rw [hp];go_wp2;go_ret;exact ⟨rfl,HB.out⟩
theorem Rj {I:World->Prop} (C:gh I) (op:Int) (w:World) (h:63<=op/\op<=63) (hI:I w):Calls prog 73 #[.int .i64 op] w λe w'=>e=.returned (.int .i64 1)/\Below w.heap.size w w':=by
 have hp:eu op=false:=au (by omega);have hfl:dm op=false:=au (by omega);have HI:=ag hI;clear hI;obtain rfl:op=63:=by omega
 clear h;go_enter func73,ntmps73;go_wp2;go_ret;exact ⟨rfl,Below.refl _ _⟩
theorem Rl {I:World->Prop} (C:gh I) (op:Int) (w:World) (h:64<=op/\op<=64) (hI:I w):Calls prog 73 #[.int .i64 op] w λe w'=>e=.returned (.int .i64 1)/\Below w.heap.size w w':=by
 have hp:eu op=false:=au (by omega);have hfl:dm op=false:=au (by omega);have HI:=ag hI;clear hI;obtain rfl:op=64:=by omega
 clear h;go_enter func73,ntmps73;go_wp2;go_ret;exact ⟨rfl,Below.refl _ _⟩
theorem Rn {I:World->Prop} (C:gh I) (op:Int) (w:World) (h:65<=op/\op<=65) (hI:I w):Calls prog 73 #[.int .i64 op] w λe w'=>e=.returned (.int .i64 9)/\Below w.heap.size w w':=by
 have hp:eu op=false:=au (by omega);have hfl:dm op=false:=au (by omega);have HI:=ag hI;clear hI;obtain rfl:op=65:=by omega
 clear h;go_enter func73,ntmps73;go_wp2_with fail;refine (C.reckons _ _ HI.out).mono ?_;rintro e u ⟨rfl,hb⟩;have HB:=ag hb;clear hb;rw [hp];go_wp2;go_ret;exact ⟨rfl,HB.out⟩
theorem Rp {I:World->Prop} (C:gh I) (op:Int) (w:World) (h:66<=op/\op<=66) (hI:I w):Calls prog 73 #[.int .i64 op] w λe w'=>e=.returned (.int .i64 9)/\Below w.heap.size w w':=by
 have hp:eu op=false:=au (by omega);have hfl:dm op=false:=au (by omega);have HI:=ag hI;clear hI;obtain rfl:op=66:=by omega
 clear h;go_enter func73,ntmps73;go_wp2_with fail;refine (C.reckons _ _ HI.out).mono ?_;rintro e u ⟨rfl,hb⟩;have HB:=ag hb;clear hb;rw [hp];go_wp2;go_ret;exact ⟨rfl,HB.out⟩
theorem Rs {I:World->Prop} (C:gh I) (op:Int) (w:World) (h:67<=op/\op<=67) (hI:I w):Calls prog 73 #[.int .i64 op] w λe w'=>e=.returned (.int .i64 10)/\Below w.heap.size w w':=by
 have hp:eu op=false:=au (by omega);have hfl:dm op=true:=aC (by omega);have HI:=ag hI;clear hI;obtain rfl:op=67:=by omega
 clear h;go_enter func73,ntmps73;go_wp2_with fail;refine (C.reckons _ _ HI.out).mono ?_;rintro e u ⟨rfl,hb⟩;have HB:=ag hb;clear hb;rw [hp];go_wp2_with fail;refine (qc _ _).mono ?_;rintro e u ⟨rfl,rfl⟩;rw [hfl];go_wp2;go_ret;exact ⟨rfl,HB.out⟩
theorem Rt {I:World->Prop} (C:gh I) (op:Int) (w:World) (h:68<=op/\op<=68) (hI:I w):Calls prog 73 #[.int .i64 op] w λe w'=>e=.returned (.int .i64 10)/\Below w.heap.size w w':=by
 have hp:eu op=false:=au (by omega);have hfl:dm op=true:=aC (by omega);have HI:=ag hI;clear hI;obtain rfl:op=68:=by omega
 clear h;go_enter func73,ntmps73;go_wp2_with fail;refine (C.reckons _ _ HI.out).mono ?_;rintro e u ⟨rfl,hb⟩;have HB:=ag hb;clear hb;rw [hp];go_wp2_with fail;refine (qc _ _).mono ?_;rintro e u ⟨rfl,rfl⟩;rw [hfl];go_wp2;go_ret;exact ⟨rfl,HB.out⟩
theorem Rv {I:World->Prop} (C:gh I) (op:Int) (w:World) (h:69<=op/\op<=90) (hI:I w):Calls prog 73 #[.int .i64 op] w λe w'=>e=.returned (.int .i64 1)/\Below w.heap.size w w':=by
 have hp:eu op=true:=aC (by omega);have hfl:dm op=false:=au (by omega);have HI:=ag hI;clear hI;have q0:(op==0)=false:=ah (by omega);have q1:(op==1)=false:=ah (by omega);have jg:(op==15)=false:=ah (by omega);have jh:(op==26)=false:=ah (by omega);have ji:(op==27)=false:=ah (by omega);have jk:(op==63)=false:=ah (by omega);have jl:(op==64)=false:=ah (by omega);have q2:(op==2)=false:=ah (by omega);have q3:(op==3)=false:=ah (by omega);have q4:(op==4)=false:=ah (by omega);have jm:(op==12)=false:=ah (by omega);have jo:(op==13)=false:=ah (by omega);have jq:(op==14)=false:=ah (by omega);have q16:(op==16)=false:=ah (by omega);have jr:(op==17)=false:=ah (by omega);have ju:(op==40)=false:=ah (by omega);have jv:(op==41)=false:=ah (by omega);have jw:(op==65)=false:=ah (by omega);have jy:(op==66)=false:=ah (by omega);have a32:decide ((32:Int)<=op)=true:=aC (by omega);have uO:decide (op<=(36:Int))=false:=au (by omega);have qD:decide ((44:Int)<=op)=true:=aC (by omega);have xz:decide (op<=(55:Int))=false:=au (by omega);have a58:decide ((58:Int)<=op)=true:=aC (by omega);have yN:decide (op<=(62:Int))=false:=au (by omega);clear h;go_enter func73,ntmps73;go_wp2_with fail;refine (C.reckons _ _ HI.out).mono ?_;rintro e u ⟨rfl,hb⟩;have HB:=ag hb;clear hb;rw [hp];go_wp2;go_ret;exact ⟨rfl,HB.out⟩
theorem Rx {I:World->Prop} (C:gh I) (op:Int) (w:World) (h:91<=op/\op<=102) (hI:I w):Calls prog 73 #[.int .i64 op] w λe w'=>e=.returned (.int .i64 10)/\Below w.heap.size w w':=by
 have hp:eu op=false:=au (by omega);have hfl:dm op=true:=aC (by omega);have HI:=ag hI;clear hI;have q0:(op==0)=false:=ah (by omega);have q1:(op==1)=false:=ah (by omega);have jg:(op==15)=false:=ah (by omega);have jh:(op==26)=false:=ah (by omega);have ji:(op==27)=false:=ah (by omega);have jk:(op==63)=false:=ah (by omega);have jl:(op==64)=false:=ah (by omega);have q2:(op==2)=false:=ah (by omega);have q3:(op==3)=false:=ah (by omega);have q4:(op==4)=false:=ah (by omega);have jm:(op==12)=false:=ah (by omega);have jo:(op==13)=false:=ah (by omega);have jq:(op==14)=false:=ah (by omega);have q16:(op==16)=false:=ah (by omega);have jr:(op==17)=false:=ah (by omega);have ju:(op==40)=false:=ah (by omega);have jv:(op==41)=false:=ah (by omega);have jw:(op==65)=false:=ah (by omega);have jy:(op==66)=false:=ah (by omega);have a32:decide ((32:Int)<=op)=true:=aC (by omega);have uO:decide (op<=(36:Int))=false:=au (by omega);have qD:decide ((44:Int)<=op)=true:=aC (by omega);have xz:decide (op<=(55:Int))=false:=au (by omega);have a58:decide ((58:Int)<=op)=true:=aC (by omega);have yN:decide (op<=(62:Int))=false:=au (by omega);clear h;go_enter func73,ntmps73;go_wp2_with fail;refine (C.reckons _ _ HI.out).mono ?_;rintro e u ⟨rfl,hb⟩;have HB:=ag hb;clear hb;rw [hp];go_wp2_with fail;refine (qc _ _).mono ?_;rintro e u ⟨rfl,rfl⟩;rw [hfl];go_wp2;go_ret;exact ⟨rfl,HB.out⟩
theorem Rz {I:World->Prop} (C:gh I) (op:Int) (w:World) (h:103<=op/\op<=138) (hI:I w):Calls prog 73 #[.int .i64 op] w λe w'=>e=.returned (.int .i64 1)/\Below w.heap.size w w':=by
 have hp:eu op=true:=aC (by omega);have hfl:dm op=false:=au (by omega);have HI:=ag hI;clear hI;have q0:(op==0)=false:=ah (by omega);have q1:(op==1)=false:=ah (by omega);have jg:(op==15)=false:=ah (by omega);have jh:(op==26)=false:=ah (by omega);have ji:(op==27)=false:=ah (by omega);have jk:(op==63)=false:=ah (by omega);have jl:(op==64)=false:=ah (by omega);have q2:(op==2)=false:=ah (by omega);have q3:(op==3)=false:=ah (by omega);have q4:(op==4)=false:=ah (by omega);have jm:(op==12)=false:=ah (by omega);have jo:(op==13)=false:=ah (by omega);have jq:(op==14)=false:=ah (by omega);have q16:(op==16)=false:=ah (by omega);have jr:(op==17)=false:=ah (by omega);have ju:(op==40)=false:=ah (by omega);have jv:(op==41)=false:=ah (by omega);have jw:(op==65)=false:=ah (by omega);have jy:(op==66)=false:=ah (by omega);have a32:decide ((32:Int)<=op)=true:=aC (by omega);have uO:decide (op<=(36:Int))=false:=au (by omega);have qD:decide ((44:Int)<=op)=true:=aC (by omega);have xz:decide (op<=(55:Int))=false:=au (by omega);have a58:decide ((58:Int)<=op)=true:=aC (by omega);have yN:decide (op<=(62:Int))=false:=au (by omega);clear h;go_enter func73,ntmps73;go_wp2_with fail;refine (C.reckons _ _ HI.out).mono ?_;rintro e u ⟨rfl,hb⟩;have HB:=ag hb;clear hb;rw [hp];go_wp2;go_ret;exact ⟨rfl,HB.out⟩
theorem RB {I:World->Prop} (C:gh I) (op:Int) (w:World) (h:139<=op/\op<=166) (hI:I w):Calls prog 73 #[.int .i64 op] w λe w'=>e=.returned (.int .i64 10)/\Below w.heap.size w w':=by
 have hp:eu op=false:=au (by omega);have hfl:dm op=true:=aC (by omega);have HI:=ag hI;clear hI;have q0:(op==0)=false:=ah (by omega);have q1:(op==1)=false:=ah (by omega);have jg:(op==15)=false:=ah (by omega);have jh:(op==26)=false:=ah (by omega);have ji:(op==27)=false:=ah (by omega);have jk:(op==63)=false:=ah (by omega);have jl:(op==64)=false:=ah (by omega);have q2:(op==2)=false:=ah (by omega);have q3:(op==3)=false:=ah (by omega);have q4:(op==4)=false:=ah (by omega);have jm:(op==12)=false:=ah (by omega);have jo:(op==13)=false:=ah (by omega);have jq:(op==14)=false:=ah (by omega);have q16:(op==16)=false:=ah (by omega);have jr:(op==17)=false:=ah (by omega);have ju:(op==40)=false:=ah (by omega);have jv:(op==41)=false:=ah (by omega);have jw:(op==65)=false:=ah (by omega);have jy:(op==66)=false:=ah (by omega);have a32:decide ((32:Int)<=op)=true:=aC (by omega);have uO:decide (op<=(36:Int))=false:=au (by omega);have qD:decide ((44:Int)<=op)=true:=aC (by omega);have xz:decide (op<=(55:Int))=false:=au (by omega);have a58:decide ((58:Int)<=op)=true:=aC (by omega);have yN:decide (op<=(62:Int))=false:=au (by omega);clear h;go_enter func73,ntmps73;go_wp2_with fail;refine (C.reckons _ _ HI.out).mono ?_;rintro e u ⟨rfl,hb⟩;have HB:=ag hb;clear hb;rw [hp];go_wp2_with fail;refine (qc _ _).mono ?_;rintro e u ⟨rfl,rfl⟩;rw [hfl];go_wp2;go_ret;exact ⟨rfl,HB.out⟩
theorem RE {I:World->Prop} (C:gh I) (op:Int) (w:World) (h:167<=op/\op<=167) (hI:I w):Calls prog 73 #[.int .i64 op] w λe w'=>e=.returned (.int .i64 1)/\Below w.heap.size w w':=by
 have hp:eu op=true:=aC (by omega);have hfl:dm op=false:=au (by omega);have HI:=ag hI;clear hI;obtain rfl:op=167:=by omega
 clear h;go_enter func73,ntmps73;go_wp2_with fail;refine (C.reckons _ _ HI.out).mono ?_;rintro e u ⟨rfl,hb⟩;have HB:=ag hb;clear hb;rw [hp];go_wp2;go_ret;exact ⟨rfl,HB.out⟩
theorem RH {I:World->Prop} (C:gh I) (op:Int) (w:World) (h:168<=op/\op<=171) (hI:I w):Calls prog 73 #[.int .i64 op] w λe w'=>e=.returned (.int .i64 10)/\Below w.heap.size w w':=by
 have hp:eu op=false:=au (by omega);have hfl:dm op=true:=aC (by omega);have HI:=ag hI;clear hI;have q0:(op==0)=false:=ah (by omega);have q1:(op==1)=false:=ah (by omega);have jg:(op==15)=false:=ah (by omega);have jh:(op==26)=false:=ah (by omega);have ji:(op==27)=false:=ah (by omega);have jk:(op==63)=false:=ah (by omega);have jl:(op==64)=false:=ah (by omega);have q2:(op==2)=false:=ah (by omega);have q3:(op==3)=false:=ah (by omega);have q4:(op==4)=false:=ah (by omega);have jm:(op==12)=false:=ah (by omega);have jo:(op==13)=false:=ah (by omega);have jq:(op==14)=false:=ah (by omega);have q16:(op==16)=false:=ah (by omega);have jr:(op==17)=false:=ah (by omega);have ju:(op==40)=false:=ah (by omega);have jv:(op==41)=false:=ah (by omega);have jw:(op==65)=false:=ah (by omega);have jy:(op==66)=false:=ah (by omega);have a32:decide ((32:Int)<=op)=true:=aC (by omega);have uO:decide (op<=(36:Int))=false:=au (by omega);have qD:decide ((44:Int)<=op)=true:=aC (by omega);have xz:decide (op<=(55:Int))=false:=au (by omega);have a58:decide ((58:Int)<=op)=true:=aC (by omega);have yN:decide (op<=(62:Int))=false:=au (by omega);clear h;go_enter func73,ntmps73;go_wp2_with fail;refine (C.reckons _ _ HI.out).mono ?_;rintro e u ⟨rfl,hb⟩;have HB:=ag hb;clear hb;rw [hp];go_wp2_with fail;refine (qc _ _).mono ?_;rintro e u ⟨rfl,rfl⟩;rw [hfl];go_wp2;go_ret;exact ⟨rfl,HB.out⟩
theorem RJ {I:World->Prop} (C:gh I) (op:Int) (w:World) (h:172<=op/\op<=173) (hI:I w):Calls prog 73 #[.int .i64 op] w λe w'=>e=.returned (.int .i64 1)/\Below w.heap.size w w':=by
 have hp:eu op=true:=aC (by omega);have hfl:dm op=false:=au (by omega);have HI:=ag hI;clear hI;have q0:(op==0)=false:=ah (by omega);have q1:(op==1)=false:=ah (by omega);have jg:(op==15)=false:=ah (by omega);have jh:(op==26)=false:=ah (by omega);have ji:(op==27)=false:=ah (by omega);have jk:(op==63)=false:=ah (by omega);have jl:(op==64)=false:=ah (by omega);have q2:(op==2)=false:=ah (by omega);have q3:(op==3)=false:=ah (by omega);have q4:(op==4)=false:=ah (by omega);have jm:(op==12)=false:=ah (by omega);have jo:(op==13)=false:=ah (by omega);have jq:(op==14)=false:=ah (by omega);have q16:(op==16)=false:=ah (by omega);have jr:(op==17)=false:=ah (by omega);have ju:(op==40)=false:=ah (by omega);have jv:(op==41)=false:=ah (by omega);have jw:(op==65)=false:=ah (by omega);have jy:(op==66)=false:=ah (by omega);have a32:decide ((32:Int)<=op)=true:=aC (by omega);have uO:decide (op<=(36:Int))=false:=au (by omega);have qD:decide ((44:Int)<=op)=true:=aC (by omega);have xz:decide (op<=(55:Int))=false:=au (by omega);have a58:decide ((58:Int)<=op)=true:=aC (by omega);have yN:decide (op<=(62:Int))=false:=au (by omega);clear h;go_enter func73,ntmps73;go_wp2_with fail;refine (C.reckons _ _ HI.out).mono ?_;rintro e u ⟨rfl,hb⟩;have HB:=ag hb;clear hb;rw [hp];go_wp2;go_ret;exact ⟨rfl,HB.out⟩
theorem RN {I:World->Prop} (C:gh I) (op:Int) (w:World) (h:174<=op/\op<=191) (hI:I w):Calls prog 73 #[.int .i64 op] w λe w'=>e=.returned (.int .i64 10)/\Below w.heap.size w w':=by
 have hp:eu op=false:=au (by omega);have hfl:dm op=true:=aC (by omega);have HI:=ag hI;clear hI;have q0:(op==0)=false:=ah (by omega);have q1:(op==1)=false:=ah (by omega);have jg:(op==15)=false:=ah (by omega);have jh:(op==26)=false:=ah (by omega);have ji:(op==27)=false:=ah (by omega);have jk:(op==63)=false:=ah (by omega);have jl:(op==64)=false:=ah (by omega);have q2:(op==2)=false:=ah (by omega);have q3:(op==3)=false:=ah (by omega);have q4:(op==4)=false:=ah (by omega);have jm:(op==12)=false:=ah (by omega);have jo:(op==13)=false:=ah (by omega);have jq:(op==14)=false:=ah (by omega);have q16:(op==16)=false:=ah (by omega);have jr:(op==17)=false:=ah (by omega);have ju:(op==40)=false:=ah (by omega);have jv:(op==41)=false:=ah (by omega);have jw:(op==65)=false:=ah (by omega);have jy:(op==66)=false:=ah (by omega);have a32:decide ((32:Int)<=op)=true:=aC (by omega);have uO:decide (op<=(36:Int))=false:=au (by omega);have qD:decide ((44:Int)<=op)=true:=aC (by omega);have xz:decide (op<=(55:Int))=false:=au (by omega);have a58:decide ((58:Int)<=op)=true:=aC (by omega);have yN:decide (op<=(62:Int))=false:=au (by omega);clear h;go_enter func73,ntmps73;go_wp2_with fail;refine (C.reckons _ _ HI.out).mono ?_;rintro e u ⟨rfl,hb⟩;have HB:=ag hb;clear hb;rw [hp];go_wp2_with fail;refine (qc _ _).mono ?_;rintro e u ⟨rfl,rfl⟩;rw [hfl];go_wp2;go_ret;exact ⟨rfl,HB.out⟩
theorem RO {I:World->Prop} (C:gh I) (op:Int) (w:World) (h:192<=op) (hI:I w):Calls prog 73 #[.int .i64 op] w λe w'=>e=.returned (.int .i64 0)/\Below w.heap.size w w':=by
 have hp:eu op=false:=au (by omega);have hfl:dm op=false:=au (by omega);have HI:=ag hI;clear hI;have q0:(op==0)=false:=ah (by omega);have q1:(op==1)=false:=ah (by omega);have jg:(op==15)=false:=ah (by omega);have jh:(op==26)=false:=ah (by omega);have ji:(op==27)=false:=ah (by omega);have jk:(op==63)=false:=ah (by omega);have jl:(op==64)=false:=ah (by omega);have q2:(op==2)=false:=ah (by omega);have q3:(op==3)=false:=ah (by omega);have q4:(op==4)=false:=ah (by omega);have jm:(op==12)=false:=ah (by omega);have jo:(op==13)=false:=ah (by omega);have jq:(op==14)=false:=ah (by omega);have q16:(op==16)=false:=ah (by omega);have jr:(op==17)=false:=ah (by omega);have ju:(op==40)=false:=ah (by omega);have jv:(op==41)=false:=ah (by omega);have jw:(op==65)=false:=ah (by omega);have jy:(op==66)=false:=ah (by omega);have a32:decide ((32:Int)<=op)=true:=aC (by omega);have uO:decide (op<=(36:Int))=false:=au (by omega);have qD:decide ((44:Int)<=op)=true:=aC (by omega);have xz:decide (op<=(55:Int))=false:=au (by omega);have a58:decide ((58:Int)<=op)=true:=aC (by omega);have yN:decide (op<=(62:Int))=false:=au (by omega);clear h;go_enter func73,ntmps73;go_wp2_with fail;refine (C.reckons _ _ HI.out).mono ?_;rintro e u ⟨rfl,hb⟩;have HB:=ag hb;clear hb;rw [hp];go_wp2_with fail;refine (qc _ _).mono ?_;rintro e u ⟨rfl,rfl⟩;rw [hfl];go_wp2;go_ret;exact ⟨rfl,HB.out⟩
theorem QH {I:World->Prop} (C:gh I) (op:Int) (w:World) (hI:I w):Calls prog 73 #[.int .i64 op] w λe w'=>e=.returned (.int .i64 (form op))/\Below w.heap.size w w':=by
 by_cases c0:op<=-1
 ·have e:form op=0:=by
   unfold form
   repeat first|rw [if_neg (by omega)]|rw [if_pos (by omega)]
  rw [e];exact QI C op w (by omega) hI
 by_cases c1:op<=0
 ·have e:form op=1:=by
   unfold form
   repeat first|rw [if_neg (by omega)]|rw [if_pos (by omega)]
  rw [e];exact QJ C op w (by omega) hI
 by_cases c2:op<=1
 ·have e:form op=1:=by
   unfold form
   repeat first|rw [if_neg (by omega)]|rw [if_pos (by omega)]
  rw [e];exact QK C op w (by omega) hI
 by_cases c3:op<=2
 ·have e:form op=2:=by
   unfold form
   repeat first|rw [if_neg (by omega)]|rw [if_pos (by omega)]
  rw [e];exact QL C op w (by omega) hI
 by_cases c4:op<=3
 ·have e:form op=2:=by
   unfold form
   repeat first|rw [if_neg (by omega)]|rw [if_pos (by omega)]
  rw [e];exact QM C op w (by omega) hI
 by_cases c5:op<=4
 ·have e:form op=3:=by
   unfold form
   repeat first|rw [if_neg (by omega)]|rw [if_pos (by omega)]
  rw [e];exact QN C op w (by omega) hI
 by_cases c6:op<=11
 ·have e:form op=0:=by
   unfold form
   repeat first|rw [if_neg (by omega)]|rw [if_pos (by omega)]
  rw [e];exact QO C op w (by omega) hI
 by_cases c7:op<=12
 ·have e:form op=4:=by
   unfold form
   repeat first|rw [if_neg (by omega)]|rw [if_pos (by omega)]
  rw [e];exact QP C op w (by omega) hI
 by_cases c8:op<=13
 ·have e:form op=4:=by
   unfold form
   repeat first|rw [if_neg (by omega)]|rw [if_pos (by omega)]
  rw [e];exact QQ C op w (by omega) hI
 by_cases c9:op<=14
 ·have e:form op=5:=by
   unfold form
   repeat first|rw [if_neg (by omega)]|rw [if_pos (by omega)]
  rw [e];exact QR C op w (by omega) hI
 by_cases c10:op<=15
 ·have e:form op=1:=by
   unfold form
   repeat first|rw [if_neg (by omega)]|rw [if_pos (by omega)]
  rw [e];exact QS C op w (by omega) hI
 by_cases c11:op<=16
 ·have e:form op=6:=by
   unfold form
   repeat first|rw [if_neg (by omega)]|rw [if_pos (by omega)]
  rw [e];exact QT C op w (by omega) hI
 by_cases c12:op<=17
 ·have e:form op=7:=by
   unfold form
   repeat first|rw [if_neg (by omega)]|rw [if_pos (by omega)]
  rw [e];exact QU C op w (by omega) hI
 by_cases c13:op<=25
 ·have e:form op=0:=by
   unfold form
   repeat first|rw [if_neg (by omega)]|rw [if_pos (by omega)]
  rw [e];exact QV C op w (by omega) hI
 by_cases c14:op<=26
 ·have e:form op=1:=by
   unfold form
   repeat first|rw [if_neg (by omega)]|rw [if_pos (by omega)]
  rw [e];exact QW C op w (by omega) hI
 by_cases c15:op<=27
 ·have e:form op=1:=by
   unfold form
   repeat first|rw [if_neg (by omega)]|rw [if_pos (by omega)]
  rw [e];exact QX C op w (by omega) hI
 by_cases c16:op<=31
 ·have e:form op=0:=by
   unfold form
   repeat first|rw [if_neg (by omega)]|rw [if_pos (by omega)]
  rw [e];exact QY C op w (by omega) hI
 by_cases c17:op<=36
 ·have e:form op=6:=by
   unfold form
   repeat first|rw [if_neg (by omega)]|rw [if_pos (by omega)]
  rw [e];exact QZ C op w (by omega) hI
 by_cases c18:op<=39
 ·have e:form op=0:=by
   unfold form
   repeat first|rw [if_neg (by omega)]|rw [if_pos (by omega)]
  rw [e];exact Q0 C op w (by omega) hI
 by_cases c19:op<=40
 ·have e:form op=8:=by
   unfold form
   repeat first|rw [if_neg (by omega)]|rw [if_pos (by omega)]
  rw [e];exact Q3 C op w (by omega) hI
 by_cases FV:op<=41
 ·have e:form op=8:=by
   unfold form
   repeat first|rw [if_neg (by omega)]|rw [if_pos (by omega)]
  rw [e];exact Q4 C op w (by omega) hI
 by_cases c21:op<=42
 ·have e:form op=10:=by
   unfold form
   repeat first|rw [if_neg (by omega)]|rw [if_pos (by omega)]
  rw [e];exact Q5 C op w (by omega) hI
 by_cases Q6:op<=43
 ·have e:form op=10:=by
   unfold form
   repeat first|rw [if_neg (by omega)]|rw [if_pos (by omega)]
  rw [e];exact Q7 C op w (by omega) hI
 by_cases Q8:op<=55
 ·have e:form op=8:=by
   unfold form
   repeat first|rw [if_neg (by omega)]|rw [if_pos (by omega)]
  rw [e];exact Q9 C op w (by omega) hI
 by_cases Ra:op<=56
 ·have e:form op=10:=by
   unfold form
   repeat first|rw [if_neg (by omega)]|rw [if_pos (by omega)]
  rw [e];exact Rb C op w (by omega) hI
 by_cases Rc:op<=57
 ·have e:form op=10:=by
   unfold form
   repeat first|rw [if_neg (by omega)]|rw [if_pos (by omega)]
  rw [e];exact Re C op w (by omega) hI
 by_cases Rf:op<=62
 ·have e:form op=8:=by
   unfold form
   repeat first|rw [if_neg (by omega)]|rw [if_pos (by omega)]
  rw [e];exact Rh C op w (by omega) hI
 by_cases Ri:op<=63
 ·have e:form op=1:=by
   unfold form
   repeat first|rw [if_neg (by omega)]|rw [if_pos (by omega)]
  rw [e];exact Rj C op w (by omega) hI
 by_cases Rk:op<=64
 ·have e:form op=1:=by
   unfold form
   repeat first|rw [if_neg (by omega)]|rw [if_pos (by omega)]
  rw [e];exact Rl C op w (by omega) hI
 by_cases Rm:op<=65
 ·have e:form op=9:=by
   unfold form
   repeat first|rw [if_neg (by omega)]|rw [if_pos (by omega)]
  rw [e];exact Rn C op w (by omega) hI
 by_cases Ro:op<=66
 ·have e:form op=9:=by
   unfold form
   repeat first|rw [if_neg (by omega)]|rw [if_pos (by omega)]
  rw [e];exact Rp C op w (by omega) hI
 by_cases Rq:op<=67
 ·have e:form op=10:=by
   unfold form
   repeat first|rw [if_neg (by omega)]|rw [if_pos (by omega)]
  rw [e];exact Rs C op w (by omega) hI
 by_cases c32:op<=68
 ·have e:form op=10:=by
   unfold form
   repeat first|rw [if_neg (by omega)]|rw [if_pos (by omega)]
  rw [e];exact Rt C op w (by omega) hI
 by_cases Ru:op<=90
 ·have e:form op=1:=by
   unfold form
   repeat first|rw [if_neg (by omega)]|rw [if_pos (by omega)]
  rw [e];exact Rv C op w (by omega) hI
 by_cases Rw:op<=102
 ·have e:form op=10:=by
   unfold form
   repeat first|rw [if_neg (by omega)]|rw [if_pos (by omega)]
  rw [e];exact Rx C op w (by omega) hI
 by_cases Ry:op<=138
 ·have e:form op=1:=by
   unfold form
   repeat first|rw [if_neg (by omega)]|rw [if_pos (by omega)]
  rw [e];exact Rz C op w (by omega) hI
 by_cases RA:op<=166
 ·have e:form op=10:=by
   unfold form
   repeat first|rw [if_neg (by omega)]|rw [if_pos (by omega)]
  rw [e];exact RB C op w (by omega) hI
 by_cases RD:op<=167
 ·have e:form op=1:=by
   unfold form
   repeat first|rw [if_neg (by omega)]|rw [if_pos (by omega)]
  rw [e];exact RE C op w (by omega) hI
 by_cases RG:op<=171
 ·have e:form op=10:=by
   unfold form
   repeat first|rw [if_neg (by omega)]|rw [if_pos (by omega)]
  rw [e];exact RH C op w (by omega) hI
 by_cases RI:op<=173
 ·have e:form op=1:=by
   unfold form
   repeat first|rw [if_neg (by omega)]|rw [if_pos (by omega)]
  rw [e];exact RJ C op w (by omega) hI
 by_cases RL:op<=191
 ·have e:form op=10:=by
   unfold form
   repeat first|rw [if_neg (by omega)]|rw [if_pos (by omega)]
  rw [e];exact RN C op w (by omega) hI
 have e:form op=0:=by
  unfold form
  repeat rw [if_neg (by omega)]
 rw [e];exact RO C op w (by omega) hI
theorem RP {I:World->Prop} (C:gh I):dB I:=⟨C.keep,λop w h=>QH C op w h⟩
end Go.Proofs.YtmfcojpjpgldhaaGreatDoor
