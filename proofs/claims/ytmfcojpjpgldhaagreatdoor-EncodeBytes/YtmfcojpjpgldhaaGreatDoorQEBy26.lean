/- Texts that the claim needs. -/
import Derived.Test.YtmfcojpjpgldhaaGreatDoorQEBy3
import Derived.Test.YtmfcojpjpgldhaaGreatDoorQEBy24
import Derived.Test.YtmfcojpjpgldhaaGreatDoorQEBy25
namespace Go.Proofs.YtmfcojpjpgldhaaGreatDoor
open Go.RowKit aA Go.Proofs.Tryz
set_option linter.unusedVariables false
set_option maxHeartbeats 1000000
theorem Xy (op:Int) (w:World) (h:64<=op/\op<=64):Calls prog 121 #[.int .i64 op] w λe w'=>e=.returned (.int .i64 1)/\w'=w:=by
 have hs:=gI op;have hp:decide (0<(bC.sig op).1)=false:=by exact au (λhp=>by have:=hs.1 hp;omega)
 clear hs;obtain rfl:op=64:=by omega
 clear h;go_enter func121,ntmps121;go_wp2_with fail;refine (gL _ _).mono ?_;rintro e u ⟨rfl,rfl⟩;generalize bC.sig 64=t at *;go_wp2;go_ret;exact ⟨rfl,rfl⟩
theorem Xz (op:Int) (w:World) (h:65<=op/\op<=65):Calls prog 121 #[.int .i64 op] w λe w'=>e=.returned (.int .i64 9)/\w'=w:=by
 have hs:=gI op;have hp:decide (0<(bC.sig op).1)=false:=by exact au (λhp=>by have:=hs.1 hp;omega)
 clear hs;obtain rfl:op=65:=by omega
 clear h;go_enter func121,ntmps121;go_wp2_with fail;refine (gL _ _).mono ?_;rintro e u ⟨rfl,rfl⟩;generalize bC.sig 65=t at *;go_wp2_with fail;refine (bB _ _ _ _).mono ?_;rintro e u ⟨rfl,rfl⟩;rw [show decide ((32:Int)<=65/\(65:Int)<=36)=false by decide];go_wp2_with fail;refine (bB _ _ _ _).mono ?_;rintro e u ⟨rfl,rfl⟩;rw [show decide ((44:Int)<=65/\(65:Int)<=55)=false by decide];go_wp2_with fail;refine (bB _ _ _ _).mono ?_;rintro e u ⟨rfl,rfl⟩;rw [show decide ((58:Int)<=65/\(65:Int)<=62)=false by decide];go_wp2;go_ret;exact ⟨rfl,rfl⟩
theorem XA (op:Int) (w:World) (h:66<=op/\op<=66):Calls prog 121 #[.int .i64 op] w λe w'=>e=.returned (.int .i64 9)/\w'=w:=by
 have hs:=gI op;have hp:decide (0<(bC.sig op).1)=false:=by exact au (λhp=>by have:=hs.1 hp;omega)
 clear hs;obtain rfl:op=66:=by omega
 clear h;go_enter func121,ntmps121;go_wp2_with fail;refine (gL _ _).mono ?_;rintro e u ⟨rfl,rfl⟩;generalize bC.sig 66=t at *;go_wp2_with fail;refine (bB _ _ _ _).mono ?_;rintro e u ⟨rfl,rfl⟩;rw [show decide ((32:Int)<=66/\(66:Int)<=36)=false by decide];go_wp2_with fail;refine (bB _ _ _ _).mono ?_;rintro e u ⟨rfl,rfl⟩;rw [show decide ((44:Int)<=66/\(66:Int)<=55)=false by decide];go_wp2_with fail;refine (bB _ _ _ _).mono ?_;rintro e u ⟨rfl,rfl⟩;rw [show decide ((58:Int)<=66/\(66:Int)<=62)=false by decide];go_wp2;go_ret;exact ⟨rfl,rfl⟩
theorem XB (op:Int) (w:World) (h:67<=op/\op<=67):Calls prog 121 #[.int .i64 op] w λe w'=>e=.returned (.int .i64 10)/\w'=w:=by
 have hs:=gI op;have hp:decide (0<(bC.sig op).1)=false:=by exact au (λhp=>by have:=hs.1 hp;omega)
 clear hs;obtain rfl:op=67:=by omega
 clear h;go_enter func121,ntmps121;go_wp2_with fail;refine (gL _ _).mono ?_;rintro e u ⟨rfl,rfl⟩;generalize bC.sig 67=t at *;go_wp2_with fail;refine (bB _ _ _ _).mono ?_;rintro e u ⟨rfl,rfl⟩;rw [show decide ((32:Int)<=67/\(67:Int)<=36)=false by decide];go_wp2_with fail;refine (bB _ _ _ _).mono ?_;rintro e u ⟨rfl,rfl⟩;rw [show decide ((44:Int)<=67/\(67:Int)<=55)=false by decide];go_wp2_with fail;refine (bB _ _ _ _).mono ?_;rintro e u ⟨rfl,rfl⟩;rw [show decide ((58:Int)<=67/\(67:Int)<=62)=false by decide];go_wp2;go_ret;exact ⟨rfl,rfl⟩
theorem XC (op:Int) (w:World) (h:68<=op/\op<=68):Calls prog 121 #[.int .i64 op] w λe w'=>e=.returned (.int .i64 10)/\w'=w:=by
 have hs:=gI op;have hp:decide (0<(bC.sig op).1)=false:=by exact au (λhp=>by have:=hs.1 hp;omega)
 clear hs;obtain rfl:op=68:=by omega
 clear h;go_enter func121,ntmps121;go_wp2_with fail;refine (gL _ _).mono ?_;rintro e u ⟨rfl,rfl⟩;generalize bC.sig 68=t at *;go_wp2_with fail;refine (bB _ _ _ _).mono ?_;rintro e u ⟨rfl,rfl⟩;rw [show decide ((32:Int)<=68/\(68:Int)<=36)=false by decide];go_wp2_with fail;refine (bB _ _ _ _).mono ?_;rintro e u ⟨rfl,rfl⟩;rw [show decide ((44:Int)<=68/\(68:Int)<=55)=false by decide];go_wp2_with fail;refine (bB _ _ _ _).mono ?_;rintro e u ⟨rfl,rfl⟩;rw [show decide ((58:Int)<=68/\(68:Int)<=62)=false by decide];go_wp2;go_ret;exact ⟨rfl,rfl⟩
theorem XD (op:Int) (w:World) (h:69<=op/\op<=90):Calls prog 121 #[.int .i64 op] w λe w'=>e=.returned (.int .i64 1)/\w'=w:=by
 have hs:=gI op;have hp:decide (0<(bC.sig op).1)=true:=by exact aC (hs.2 (by omega))
 clear hs;have q0:(op==0)=false:=ah (by omega);have q1:(op==1)=false:=ah (by omega);have jg:(op==15)=false:=ah (by omega);have jh:(op==26)=false:=ah (by omega);have ji:(op==27)=false:=ah (by omega);have jk:(op==63)=false:=ah (by omega);have jl:(op==64)=false:=ah (by omega);have q2:(op==2)=false:=ah (by omega);have q3:(op==3)=false:=ah (by omega);have q4:(op==4)=false:=ah (by omega);have jm:(op==12)=false:=ah (by omega);have jo:(op==13)=false:=ah (by omega);have jq:(op==14)=false:=ah (by omega);have q16:(op==16)=false:=ah (by omega);have jr:(op==17)=false:=ah (by omega);have ju:(op==40)=false:=ah (by omega);have jv:(op==41)=false:=ah (by omega);have jw:(op==65)=false:=ah (by omega);have jy:(op==66)=false:=ah (by omega);have kS:(op==42)=false:=ah (by omega);have kT:(op==43)=false:=ah (by omega);have kW:(op==56)=false:=ah (by omega);have kX:(op==57)=false:=ah (by omega);have kY:(op==67)=false:=ah (by omega);have kZ:(op==68)=false:=ah (by omega);have r32:decide (32<=op/\op<=36)=false:=au (by omega);have R32:=ag r32;clear r32;have fQ:decide (44<=op/\op<=55)=false:=au (by omega);have kI:=ag fQ;clear fQ;have fR:decide (58<=op/\op<=62)=false:=au (by omega);have lh:=ag fR;clear fR;have fS:decide (91<=op/\op<=102)=false:=au (by omega);have lK:=ag fS;clear fS;have fU:decide (139<=op/\op<=166)=false:=au (by omega);have lV:=ag fU;clear fU;have fV:decide (168<=op/\op<=171)=false:=au (by omega);have mr:=ag fV;clear fV;have fW:decide (174<=op/\op<=191)=false:=au (by omega);have mL:=ag fW;clear fW;clear h;go_enter func121,ntmps121;go_wp2_with fail;refine (gL _ _).mono ?_;rintro e u ⟨rfl,rfl⟩;generalize bC.sig op=t at *;go_wp2;go_ret;exact ⟨rfl,rfl⟩
theorem XE (op:Int) (w:World) (h:91<=op/\op<=102):Calls prog 121 #[.int .i64 op] w λe w'=>e=.returned (.int .i64 10)/\w'=w:=by
 have hs:=gI op;have hp:decide (0<(bC.sig op).1)=false:=by exact au (λhp=>by have:=hs.1 hp;omega)
 clear hs;have q0:(op==0)=false:=ah (by omega);have q1:(op==1)=false:=ah (by omega);have jg:(op==15)=false:=ah (by omega);have jh:(op==26)=false:=ah (by omega);have ji:(op==27)=false:=ah (by omega);have jk:(op==63)=false:=ah (by omega);have jl:(op==64)=false:=ah (by omega);have q2:(op==2)=false:=ah (by omega);have q3:(op==3)=false:=ah (by omega);have q4:(op==4)=false:=ah (by omega);have jm:(op==12)=false:=ah (by omega);have jo:(op==13)=false:=ah (by omega);have jq:(op==14)=false:=ah (by omega);have q16:(op==16)=false:=ah (by omega);have jr:(op==17)=false:=ah (by omega);have ju:(op==40)=false:=ah (by omega);have jv:(op==41)=false:=ah (by omega);have jw:(op==65)=false:=ah (by omega);have jy:(op==66)=false:=ah (by omega);have kS:(op==42)=false:=ah (by omega);have kT:(op==43)=false:=ah (by omega);have kW:(op==56)=false:=ah (by omega);have kX:(op==57)=false:=ah (by omega);have kY:(op==67)=false:=ah (by omega);have kZ:(op==68)=false:=ah (by omega);have r32:decide (32<=op/\op<=36)=false:=au (by omega);have R32:=ag r32;clear r32;have fQ:decide (44<=op/\op<=55)=false:=au (by omega);have kI:=ag fQ;clear fQ;have fR:decide (58<=op/\op<=62)=false:=au (by omega);have lh:=ag fR;clear fR;have fS:decide (91<=op/\op<=102)=true:=aC (by omega);have lK:=ag fS;clear fS;have fU:decide (139<=op/\op<=166)=false:=au (by omega);have lV:=ag fU;clear fU;have fV:decide (168<=op/\op<=171)=false:=au (by omega);have mr:=ag fV;clear fV;have fW:decide (174<=op/\op<=191)=false:=au (by omega);have mL:=ag fW;clear fW;clear h;go_enter func121,ntmps121;go_wp2_with fail;refine (gL _ _).mono ?_;rintro e u ⟨rfl,rfl⟩;generalize bC.sig op=t at *;go_wp2_with fail;refine (bB _ _ _ _).mono ?_;rintro e u ⟨rfl,rfl⟩;rw [R32.out];go_wp2_with fail;refine (bB _ _ _ _).mono ?_;rintro e u ⟨rfl,rfl⟩;rw [kI.out];go_wp2_with fail;refine (bB _ _ _ _).mono ?_;rintro e u ⟨rfl,rfl⟩;rw [lh.out];go_wp2_with fail;refine (bB _ _ _ _).mono ?_;rintro e u ⟨rfl,rfl⟩;rw [lK.out];go_wp2;go_ret;exact ⟨rfl,rfl⟩
theorem XF (op:Int) (w:World) (h:103<=op/\op<=138):Calls prog 121 #[.int .i64 op] w λe w'=>e=.returned (.int .i64 1)/\w'=w:=by
 have hs:=gI op;have hp:decide (0<(bC.sig op).1)=true:=by exact aC (hs.2 (by omega))
 clear hs;have q0:(op==0)=false:=ah (by omega);have q1:(op==1)=false:=ah (by omega);have jg:(op==15)=false:=ah (by omega);have jh:(op==26)=false:=ah (by omega);have ji:(op==27)=false:=ah (by omega);have jk:(op==63)=false:=ah (by omega);have jl:(op==64)=false:=ah (by omega);have q2:(op==2)=false:=ah (by omega);have q3:(op==3)=false:=ah (by omega);have q4:(op==4)=false:=ah (by omega);have jm:(op==12)=false:=ah (by omega);have jo:(op==13)=false:=ah (by omega);have jq:(op==14)=false:=ah (by omega);have q16:(op==16)=false:=ah (by omega);have jr:(op==17)=false:=ah (by omega);have ju:(op==40)=false:=ah (by omega);have jv:(op==41)=false:=ah (by omega);have jw:(op==65)=false:=ah (by omega);have jy:(op==66)=false:=ah (by omega);have kS:(op==42)=false:=ah (by omega);have kT:(op==43)=false:=ah (by omega);have kW:(op==56)=false:=ah (by omega);have kX:(op==57)=false:=ah (by omega);have kY:(op==67)=false:=ah (by omega);have kZ:(op==68)=false:=ah (by omega);have r32:decide (32<=op/\op<=36)=false:=au (by omega);have R32:=ag r32;clear r32;have fQ:decide (44<=op/\op<=55)=false:=au (by omega);have kI:=ag fQ;clear fQ;have fR:decide (58<=op/\op<=62)=false:=au (by omega);have lh:=ag fR;clear fR;have fS:decide (91<=op/\op<=102)=false:=au (by omega);have lK:=ag fS;clear fS;have fU:decide (139<=op/\op<=166)=false:=au (by omega);have lV:=ag fU;clear fU;have fV:decide (168<=op/\op<=171)=false:=au (by omega);have mr:=ag fV;clear fV;have fW:decide (174<=op/\op<=191)=false:=au (by omega);have mL:=ag fW;clear fW;clear h;go_enter func121,ntmps121;go_wp2_with fail;refine (gL _ _).mono ?_;rintro e u ⟨rfl,rfl⟩;generalize bC.sig op=t at *;go_wp2;go_ret;exact ⟨rfl,rfl⟩
theorem XG (op:Int) (w:World) (h:139<=op/\op<=166):Calls prog 121 #[.int .i64 op] w λe w'=>e=.returned (.int .i64 10)/\w'=w:=by
 have hs:=gI op;have hp:decide (0<(bC.sig op).1)=false:=by exact au (λhp=>by have:=hs.1 hp;omega)
 clear hs;have q0:(op==0)=false:=ah (by omega);have q1:(op==1)=false:=ah (by omega);have jg:(op==15)=false:=ah (by omega);have jh:(op==26)=false:=ah (by omega);have ji:(op==27)=false:=ah (by omega);have jk:(op==63)=false:=ah (by omega);have jl:(op==64)=false:=ah (by omega);have q2:(op==2)=false:=ah (by omega);have q3:(op==3)=false:=ah (by omega);have q4:(op==4)=false:=ah (by omega);have jm:(op==12)=false:=ah (by omega);have jo:(op==13)=false:=ah (by omega);have jq:(op==14)=false:=ah (by omega);have q16:(op==16)=false:=ah (by omega);have jr:(op==17)=false:=ah (by omega);have ju:(op==40)=false:=ah (by omega);have jv:(op==41)=false:=ah (by omega);have jw:(op==65)=false:=ah (by omega);have jy:(op==66)=false:=ah (by omega);have kS:(op==42)=false:=ah (by omega);have kT:(op==43)=false:=ah (by omega);have kW:(op==56)=false:=ah (by omega);have kX:(op==57)=false:=ah (by omega);have kY:(op==67)=false:=ah (by omega);have kZ:(op==68)=false:=ah (by omega);have r32:decide (32<=op/\op<=36)=false:=au (by omega);have R32:=ag r32;clear r32;have fQ:decide (44<=op/\op<=55)=false:=au (by omega);have kI:=ag fQ;clear fQ;have fR:decide (58<=op/\op<=62)=false:=au (by omega);have lh:=ag fR;clear fR;have fS:decide (91<=op/\op<=102)=false:=au (by omega);have lK:=ag fS;clear fS;have fU:decide (139<=op/\op<=166)=true:=aC (by omega);have lV:=ag fU;clear fU;have fV:decide (168<=op/\op<=171)=false:=au (by omega);have mr:=ag fV;clear fV;have fW:decide (174<=op/\op<=191)=false:=au (by omega);have mL:=ag fW;clear fW;clear h;go_enter func121,ntmps121;go_wp2_with fail;refine (gL _ _).mono ?_;rintro e u ⟨rfl,rfl⟩;generalize bC.sig op=t at *;go_wp2_with fail;refine (bB _ _ _ _).mono ?_;rintro e u ⟨rfl,rfl⟩;rw [R32.out];go_wp2_with fail;refine (bB _ _ _ _).mono ?_;rintro e u ⟨rfl,rfl⟩;rw [kI.out];go_wp2_with fail;refine (bB _ _ _ _).mono ?_;rintro e u ⟨rfl,rfl⟩;rw [lh.out];go_wp2_with fail;refine (bB _ _ _ _).mono ?_;rintro e u ⟨rfl,rfl⟩;rw [lK.out];go_wp2_with fail;refine (bB _ _ _ _).mono ?_;rintro e u ⟨rfl,rfl⟩;rw [lV.out];go_wp2;go_ret;exact ⟨rfl,rfl⟩
theorem XH (op:Int) (w:World) (h:167<=op/\op<=167):Calls prog 121 #[.int .i64 op] w λe w'=>e=.returned (.int .i64 1)/\w'=w:=by
 have hs:=gI op;have hp:decide (0<(bC.sig op).1)=true:=by exact aC (hs.2 (by omega))
 clear hs;obtain rfl:op=167:=by omega
 clear h;go_enter func121,ntmps121;go_wp2_with fail;refine (gL _ _).mono ?_;rintro e u ⟨rfl,rfl⟩;generalize bC.sig 167=t at *;go_wp2;go_ret;exact ⟨rfl,rfl⟩
theorem XI (op:Int) (w:World) (h:168<=op/\op<=171):Calls prog 121 #[.int .i64 op] w λe w'=>e=.returned (.int .i64 10)/\w'=w:=by
 have hs:=gI op;have hp:decide (0<(bC.sig op).1)=false:=by exact au (λhp=>by have:=hs.1 hp;omega)
 clear hs;have q0:(op==0)=false:=ah (by omega);have q1:(op==1)=false:=ah (by omega);have jg:(op==15)=false:=ah (by omega);have jh:(op==26)=false:=ah (by omega);have ji:(op==27)=false:=ah (by omega);have jk:(op==63)=false:=ah (by omega);have jl:(op==64)=false:=ah (by omega);have q2:(op==2)=false:=ah (by omega);have q3:(op==3)=false:=ah (by omega);have q4:(op==4)=false:=ah (by omega);have jm:(op==12)=false:=ah (by omega);have jo:(op==13)=false:=ah (by omega);have jq:(op==14)=false:=ah (by omega);have q16:(op==16)=false:=ah (by omega);have jr:(op==17)=false:=ah (by omega);have ju:(op==40)=false:=ah (by omega);have jv:(op==41)=false:=ah (by omega);have jw:(op==65)=false:=ah (by omega);have jy:(op==66)=false:=ah (by omega);have kS:(op==42)=false:=ah (by omega);have kT:(op==43)=false:=ah (by omega);have kW:(op==56)=false:=ah (by omega);have kX:(op==57)=false:=ah (by omega);have kY:(op==67)=false:=ah (by omega);have kZ:(op==68)=false:=ah (by omega);have r32:decide (32<=op/\op<=36)=false:=au (by omega);have R32:=ag r32;clear r32;have fQ:decide (44<=op/\op<=55)=false:=au (by omega);have kI:=ag fQ;clear fQ;have fR:decide (58<=op/\op<=62)=false:=au (by omega);have lh:=ag fR;clear fR;have fS:decide (91<=op/\op<=102)=false:=au (by omega);have lK:=ag fS;clear fS;have fU:decide (139<=op/\op<=166)=false:=au (by omega);have lV:=ag fU;clear fU;have fV:decide (168<=op/\op<=171)=true:=aC (by omega);have mr:=ag fV;clear fV;have fW:decide (174<=op/\op<=191)=false:=au (by omega);have mL:=ag fW;clear fW;clear h;go_enter func121,ntmps121;go_wp2_with fail;refine (gL _ _).mono ?_;rintro e u ⟨rfl,rfl⟩;generalize bC.sig op=t at *;go_wp2_with fail;refine (bB _ _ _ _).mono ?_;rintro e u ⟨rfl,rfl⟩;rw [R32.out];go_wp2_with fail;refine (bB _ _ _ _).mono ?_;rintro e u ⟨rfl,rfl⟩;rw [kI.out];go_wp2_with fail;refine (bB _ _ _ _).mono ?_;rintro e u ⟨rfl,rfl⟩;rw [lh.out];go_wp2_with fail;refine (bB _ _ _ _).mono ?_;rintro e u ⟨rfl,rfl⟩;rw [lK.out];go_wp2_with fail;refine (bB _ _ _ _).mono ?_;rintro e u ⟨rfl,rfl⟩;rw [lV.out];go_wp2_with fail;refine (bB _ _ _ _).mono ?_;rintro e u ⟨rfl,rfl⟩;rw [mr.out];go_wp2;go_ret;exact ⟨rfl,rfl⟩
theorem XJ (op:Int) (w:World) (h:172<=op/\op<=173):Calls prog 121 #[.int .i64 op] w λe w'=>e=.returned (.int .i64 1)/\w'=w:=by
 have hs:=gI op;have hp:decide (0<(bC.sig op).1)=true:=by exact aC (hs.2 (by omega))
 clear hs;have q0:(op==0)=false:=ah (by omega);have q1:(op==1)=false:=ah (by omega);have jg:(op==15)=false:=ah (by omega);have jh:(op==26)=false:=ah (by omega);have ji:(op==27)=false:=ah (by omega);have jk:(op==63)=false:=ah (by omega);have jl:(op==64)=false:=ah (by omega);have q2:(op==2)=false:=ah (by omega);have q3:(op==3)=false:=ah (by omega);have q4:(op==4)=false:=ah (by omega);have jm:(op==12)=false:=ah (by omega);have jo:(op==13)=false:=ah (by omega);have jq:(op==14)=false:=ah (by omega);have q16:(op==16)=false:=ah (by omega);have jr:(op==17)=false:=ah (by omega);have ju:(op==40)=false:=ah (by omega);have jv:(op==41)=false:=ah (by omega);have jw:(op==65)=false:=ah (by omega);have jy:(op==66)=false:=ah (by omega);have kS:(op==42)=false:=ah (by omega);have kT:(op==43)=false:=ah (by omega);have kW:(op==56)=false:=ah (by omega);have kX:(op==57)=false:=ah (by omega);have kY:(op==67)=false:=ah (by omega);have kZ:(op==68)=false:=ah (by omega);have r32:decide (32<=op/\op<=36)=false:=au (by omega);have R32:=ag r32;clear r32;have fQ:decide (44<=op/\op<=55)=false:=au (by omega);have kI:=ag fQ;clear fQ;have fR:decide (58<=op/\op<=62)=false:=au (by omega);have lh:=ag fR;clear fR;have fS:decide (91<=op/\op<=102)=false:=au (by omega);have lK:=ag fS;clear fS;have fU:decide (139<=op/\op<=166)=false:=au (by omega);have lV:=ag fU;clear fU;have fV:decide (168<=op/\op<=171)=false:=au (by omega);have mr:=ag fV;clear fV;have fW:decide (174<=op/\op<=191)=false:=au (by omega);have mL:=ag fW;clear fW;clear h;go_enter func121,ntmps121;go_wp2_with fail;refine (gL _ _).mono ?_;rintro e u ⟨rfl,rfl⟩;generalize bC.sig op=t at *;go_wp2;go_ret;exact ⟨rfl,rfl⟩
theorem XK (op:Int) (w:World) (h:174<=op/\op<=191):Calls prog 121 #[.int .i64 op] w λe w'=>e=.returned (.int .i64 10)/\w'=w:=by
 have hs:=gI op;have hp:decide (0<(bC.sig op).1)=false:=by exact au (λhp=>by have:=hs.1 hp;omega)
 clear hs;have q0:(op==0)=false:=ah (by omega);have q1:(op==1)=false:=ah (by omega);have jg:(op==15)=false:=ah (by omega);have jh:(op==26)=false:=ah (by omega);have ji:(op==27)=false:=ah (by omega);have jk:(op==63)=false:=ah (by omega);have jl:(op==64)=false:=ah (by omega);have q2:(op==2)=false:=ah (by omega);have q3:(op==3)=false:=ah (by omega);have q4:(op==4)=false:=ah (by omega);have jm:(op==12)=false:=ah (by omega);have jo:(op==13)=false:=ah (by omega);have jq:(op==14)=false:=ah (by omega);have q16:(op==16)=false:=ah (by omega);have jr:(op==17)=false:=ah (by omega);have ju:(op==40)=false:=ah (by omega);have jv:(op==41)=false:=ah (by omega);have jw:(op==65)=false:=ah (by omega);have jy:(op==66)=false:=ah (by omega);have kS:(op==42)=false:=ah (by omega);have kT:(op==43)=false:=ah (by omega);have kW:(op==56)=false:=ah (by omega);have kX:(op==57)=false:=ah (by omega);have kY:(op==67)=false:=ah (by omega);have kZ:(op==68)=false:=ah (by omega);have r32:decide (32<=op/\op<=36)=false:=au (by omega);have R32:=ag r32;clear r32;have fQ:decide (44<=op/\op<=55)=false:=au (by omega);have kI:=ag fQ;clear fQ;have fR:decide (58<=op/\op<=62)=false:=au (by omega);have lh:=ag fR;clear fR;have fS:decide (91<=op/\op<=102)=false:=au (by omega);have lK:=ag fS;clear fS;have fU:decide (139<=op/\op<=166)=false:=au (by omega);have lV:=ag fU;clear fU;have fV:decide (168<=op/\op<=171)=false:=au (by omega);have mr:=ag fV;clear fV;have fW:decide (174<=op/\op<=191)=true:=aC (by omega);have mL:=ag fW;clear fW;clear h;go_enter func121,ntmps121;go_wp2_with fail;refine (gL _ _).mono ?_;rintro e u ⟨rfl,rfl⟩;generalize bC.sig op=t at *;go_wp2_with fail;refine (bB _ _ _ _).mono ?_;rintro e u ⟨rfl,rfl⟩;rw [R32.out];go_wp2_with fail;refine (bB _ _ _ _).mono ?_;rintro e u ⟨rfl,rfl⟩;rw [kI.out];go_wp2_with fail;refine (bB _ _ _ _).mono ?_;rintro e u ⟨rfl,rfl⟩;rw [lh.out];go_wp2_with fail;refine (bB _ _ _ _).mono ?_;rintro e u ⟨rfl,rfl⟩;rw [lK.out];go_wp2_with fail;refine (bB _ _ _ _).mono ?_;rintro e u ⟨rfl,rfl⟩;rw [lV.out];go_wp2_with fail;refine (bB _ _ _ _).mono ?_;rintro e u ⟨rfl,rfl⟩;rw [mr.out];go_wp2_with fail;refine (bB _ _ _ _).mono ?_;rintro e u ⟨rfl,rfl⟩;rw [mL.out];go_wp2;go_ret;exact ⟨rfl,rfl⟩
theorem XL (op:Int) (w:World) (h:192<=op):Calls prog 121 #[.int .i64 op] w λe w'=>e=.returned (.int .i64 0)/\w'=w:=by
 have hs:=gI op;have hp:decide (0<(bC.sig op).1)=false:=by exact au (λhp=>by have:=hs.1 hp;omega)
 clear hs;have q0:(op==0)=false:=ah (by omega);have q1:(op==1)=false:=ah (by omega);have jg:(op==15)=false:=ah (by omega);have jh:(op==26)=false:=ah (by omega);have ji:(op==27)=false:=ah (by omega);have jk:(op==63)=false:=ah (by omega);have jl:(op==64)=false:=ah (by omega);have q2:(op==2)=false:=ah (by omega);have q3:(op==3)=false:=ah (by omega);have q4:(op==4)=false:=ah (by omega);have jm:(op==12)=false:=ah (by omega);have jo:(op==13)=false:=ah (by omega);have jq:(op==14)=false:=ah (by omega);have q16:(op==16)=false:=ah (by omega);have jr:(op==17)=false:=ah (by omega);have ju:(op==40)=false:=ah (by omega);have jv:(op==41)=false:=ah (by omega);have jw:(op==65)=false:=ah (by omega);have jy:(op==66)=false:=ah (by omega);have kS:(op==42)=false:=ah (by omega);have kT:(op==43)=false:=ah (by omega);have kW:(op==56)=false:=ah (by omega);have kX:(op==57)=false:=ah (by omega);have kY:(op==67)=false:=ah (by omega);have kZ:(op==68)=false:=ah (by omega);have r32:decide (32<=op/\op<=36)=false:=au (by omega);have R32:=ag r32;clear r32;have fQ:decide (44<=op/\op<=55)=false:=au (by omega);have kI:=ag fQ;clear fQ;have fR:decide (58<=op/\op<=62)=false:=au (by omega);have lh:=ag fR;clear fR;have fS:decide (91<=op/\op<=102)=false:=au (by omega);have lK:=ag fS;clear fS;have fU:decide (139<=op/\op<=166)=false:=au (by omega);have lV:=ag fU;clear fU;have fV:decide (168<=op/\op<=171)=false:=au (by omega);have mr:=ag fV;clear fV;have fW:decide (174<=op/\op<=191)=false:=au (by omega);have mL:=ag fW;clear fW;clear h;go_enter func121,ntmps121;go_wp2_with fail;refine (gL _ _).mono ?_;rintro e u ⟨rfl,rfl⟩;generalize bC.sig op=t at *;go_wp2_with fail;refine (bB _ _ _ _).mono ?_;rintro e u ⟨rfl,rfl⟩;rw [R32.out];go_wp2_with fail;refine (bB _ _ _ _).mono ?_;rintro e u ⟨rfl,rfl⟩;rw [kI.out];go_wp2_with fail;refine (bB _ _ _ _).mono ?_;rintro e u ⟨rfl,rfl⟩;rw [lh.out];go_wp2_with fail;refine (bB _ _ _ _).mono ?_;rintro e u ⟨rfl,rfl⟩;rw [lK.out];go_wp2_with fail;refine (bB _ _ _ _).mono ?_;rintro e u ⟨rfl,rfl⟩;rw [lV.out];go_wp2_with fail;refine (bB _ _ _ _).mono ?_;rintro e u ⟨rfl,rfl⟩;rw [mr.out];go_wp2_with fail;refine (bB _ _ _ _).mono ?_;rintro e u ⟨rfl,rfl⟩;rw [mL.out];go_wp2;go_ret;exact ⟨rfl,rfl⟩
theorem bY (op:Int) (w:World):Calls prog 121 #[.int .i64 op] w λe w'=>e=.returned (.int .i64 (form op))/\w'=w:=by
 by_cases c0:op<=-1
 ·have e:form op=0:=by
   unfold form
   repeat first|rw [if_neg (by omega)]|rw [if_pos (by omega)]
  rw [e];exact Wn op w (by omega)
 by_cases c1:op<=0
 ·have e:form op=1:=by
   unfold form
   repeat first|rw [if_neg (by omega)]|rw [if_pos (by omega)]
  rw [e];exact Wo op w (by omega)
 by_cases c2:op<=1
 ·have e:form op=1:=by
   unfold form
   repeat first|rw [if_neg (by omega)]|rw [if_pos (by omega)]
  rw [e];exact Wp op w (by omega)
 by_cases c3:op<=2
 ·have e:form op=2:=by
   unfold form
   repeat first|rw [if_neg (by omega)]|rw [if_pos (by omega)]
  rw [e];exact Wq op w (by omega)
 by_cases c4:op<=3
 ·have e:form op=2:=by
   unfold form
   repeat first|rw [if_neg (by omega)]|rw [if_pos (by omega)]
  rw [e];exact Ws op w (by omega)
 by_cases c5:op<=4
 ·have e:form op=3:=by
   unfold form
   repeat first|rw [if_neg (by omega)]|rw [if_pos (by omega)]
  rw [e];exact Wt op w (by omega)
 by_cases c6:op<=11
 ·have e:form op=0:=by
   unfold form
   repeat first|rw [if_neg (by omega)]|rw [if_pos (by omega)]
  rw [e];exact Wu op w (by omega)
 by_cases c7:op<=12
 ·have e:form op=4:=by
   unfold form
   repeat first|rw [if_neg (by omega)]|rw [if_pos (by omega)]
  rw [e];exact Wv op w (by omega)
 by_cases c8:op<=13
 ·have e:form op=4:=by
   unfold form
   repeat first|rw [if_neg (by omega)]|rw [if_pos (by omega)]
  rw [e];exact Ww op w (by omega)
 by_cases c9:op<=14
 ·have e:form op=5:=by
   unfold form
   repeat first|rw [if_neg (by omega)]|rw [if_pos (by omega)]
  rw [e];exact Wx op w (by omega)
 by_cases c10:op<=15
 ·have e:form op=1:=by
   unfold form
   repeat first|rw [if_neg (by omega)]|rw [if_pos (by omega)]
  rw [e];exact Wy op w (by omega)
 by_cases c11:op<=16
 ·have e:form op=6:=by
   unfold form
   repeat first|rw [if_neg (by omega)]|rw [if_pos (by omega)]
  rw [e];exact Wz op w (by omega)
 by_cases c12:op<=17
 ·have e:form op=7:=by
   unfold form
   repeat first|rw [if_neg (by omega)]|rw [if_pos (by omega)]
  rw [e];exact WA op w (by omega)
 by_cases c13:op<=25
 ·have e:form op=0:=by
   unfold form
   repeat first|rw [if_neg (by omega)]|rw [if_pos (by omega)]
  rw [e];exact WB op w (by omega)
 by_cases c14:op<=26
 ·have e:form op=1:=by
   unfold form
   repeat first|rw [if_neg (by omega)]|rw [if_pos (by omega)]
  rw [e];exact Yf op w (by omega)
 by_cases c15:op<=27
 ·have e:form op=1:=by
   unfold form
   repeat first|rw [if_neg (by omega)]|rw [if_pos (by omega)]
  rw [e];exact Yg op w (by omega)
 by_cases c16:op<=31
 ·have e:form op=0:=by
   unfold form
   repeat first|rw [if_neg (by omega)]|rw [if_pos (by omega)]
  rw [e];exact Yh op w (by omega)
 by_cases c17:op<=36
 ·have e:form op=6:=by
   unfold form
   repeat first|rw [if_neg (by omega)]|rw [if_pos (by omega)]
  rw [e];exact Yi op w (by omega)
 by_cases c18:op<=39
 ·have e:form op=0:=by
   unfold form
   repeat first|rw [if_neg (by omega)]|rw [if_pos (by omega)]
  rw [e];exact Yj op w (by omega)
 by_cases c19:op<=40
 ·have e:form op=8:=by
   unfold form
   repeat first|rw [if_neg (by omega)]|rw [if_pos (by omega)]
  rw [e];exact Yk op w (by omega)
 by_cases FV:op<=41
 ·have e:form op=8:=by
   unfold form
   repeat first|rw [if_neg (by omega)]|rw [if_pos (by omega)]
  rw [e];exact Yl op w (by omega)
 by_cases c21:op<=42
 ·have e:form op=10:=by
   unfold form
   repeat first|rw [if_neg (by omega)]|rw [if_pos (by omega)]
  rw [e];exact Ym op w (by omega)
 by_cases Q6:op<=43
 ·have e:form op=10:=by
   unfold form
   repeat first|rw [if_neg (by omega)]|rw [if_pos (by omega)]
  rw [e];exact Yn op w (by omega)
 by_cases Q8:op<=55
 ·have e:form op=8:=by
   unfold form
   repeat first|rw [if_neg (by omega)]|rw [if_pos (by omega)]
  rw [e];exact Yo op w (by omega)
 by_cases Ra:op<=56
 ·have e:form op=10:=by
   unfold form
   repeat first|rw [if_neg (by omega)]|rw [if_pos (by omega)]
  rw [e];exact Yp op w (by omega)
 by_cases Rc:op<=57
 ·have e:form op=10:=by
   unfold form
   repeat first|rw [if_neg (by omega)]|rw [if_pos (by omega)]
  rw [e];exact Yq op w (by omega)
 by_cases Rf:op<=62
 ·have e:form op=8:=by
   unfold form
   repeat first|rw [if_neg (by omega)]|rw [if_pos (by omega)]
  rw [e];exact Yr op w (by omega)
 by_cases Ri:op<=63
 ·have e:form op=1:=by
   unfold form
   repeat first|rw [if_neg (by omega)]|rw [if_pos (by omega)]
  rw [e];exact Yt op w (by omega)
 by_cases Rk:op<=64
 ·have e:form op=1:=by
   unfold form
   repeat first|rw [if_neg (by omega)]|rw [if_pos (by omega)]
  rw [e];exact Xy op w (by omega)
 by_cases Rm:op<=65
 ·have e:form op=9:=by
   unfold form
   repeat first|rw [if_neg (by omega)]|rw [if_pos (by omega)]
  rw [e];exact Xz op w (by omega)
 by_cases Ro:op<=66
 ·have e:form op=9:=by
   unfold form
   repeat first|rw [if_neg (by omega)]|rw [if_pos (by omega)]
  rw [e];exact XA op w (by omega)
 by_cases Rq:op<=67
 ·have e:form op=10:=by
   unfold form
   repeat first|rw [if_neg (by omega)]|rw [if_pos (by omega)]
  rw [e];exact XB op w (by omega)
 by_cases c32:op<=68
 ·have e:form op=10:=by
   unfold form
   repeat first|rw [if_neg (by omega)]|rw [if_pos (by omega)]
  rw [e];exact XC op w (by omega)
 by_cases Ru:op<=90
 ·have e:form op=1:=by
   unfold form
   repeat first|rw [if_neg (by omega)]|rw [if_pos (by omega)]
  rw [e];exact XD op w (by omega)
 by_cases Rw:op<=102
 ·have e:form op=10:=by
   unfold form
   repeat first|rw [if_neg (by omega)]|rw [if_pos (by omega)]
  rw [e];exact XE op w (by omega)
 by_cases Ry:op<=138
 ·have e:form op=1:=by
   unfold form
   repeat first|rw [if_neg (by omega)]|rw [if_pos (by omega)]
  rw [e];exact XF op w (by omega)
 by_cases RA:op<=166
 ·have e:form op=10:=by
   unfold form
   repeat first|rw [if_neg (by omega)]|rw [if_pos (by omega)]
  rw [e];exact XG op w (by omega)
 by_cases RD:op<=167
 ·have e:form op=1:=by
   unfold form
   repeat first|rw [if_neg (by omega)]|rw [if_pos (by omega)]
  rw [e];exact XH op w (by omega)
 by_cases RG:op<=171
 ·have e:form op=10:=by
   unfold form
   repeat first|rw [if_neg (by omega)]|rw [if_pos (by omega)]
  rw [e];exact XI op w (by omega)
 by_cases RI:op<=173
 ·have e:form op=1:=by
   unfold form
   repeat first|rw [if_neg (by omega)]|rw [if_pos (by omega)]
  rw [e];exact XJ op w (by omega)
 by_cases RL:op<=191
 ·have e:form op=10:=by
   unfold form
   repeat first|rw [if_neg (by omega)]|rw [if_pos (by omega)]
  rw [e];exact XK op w (by omega)
 have e:form op=0:=by
  unfold form
  repeat rw [if_neg (by omega)]
 rw [e];exact XL op w (by omega)
end Go.Proofs.YtmfcojpjpgldhaaGreatDoor
namespace Go.Proofs.YtmfcojpjpgldhaaGreatDoor
open Go.RowKit aA Enc Go.Lib Go.Proofs.Tryz
set_option linter.unusedVariables false
set_option maxRecDepth 100000
set_option maxHeartbeats 2000000
theorem dList (w0:World) (p:Nat) (ov:Bool) (v:Value) (bs id:List Int) (lv:Value) (l:List Int) (w:World) (h:PS w0 p ov v bs w) (hS:St id ov bs) (hL:Ints w0 lv l) (hr:∀x ∈ l,0<=x/\x<=4294967295) :
  Calls prog 102 #[.pointer (some ⟨p,0,none⟩),lv] w (gH w0 p v w (id++kv l)):=by
 obtain ⟨oL,kL,rfl⟩:=Row.len hL;have la:=hL.1;have eY:=aa (dU w0 p ov v bs id (l.length:Int) w h hS (by omega) (by omega));have HL:=aa hL;have HR:=aa hr;clear h hS hL hr;generalize hna:l.length=n at *;have eQ:=aa hna;obtain ⟨u0,hu0⟩:∃u0,ak.uB (n:Int)=u0:=⟨_,rfl⟩;rw [hu0] at eY;have lC:=aa hu0;clear hu0;go_enter func102,ntmps102;go_wp2_with fail;refine eY.out.mono ?_;rintro e w1 ⟨df,v1,b1,rfl,h1,s1,k1⟩;have uk:=aa h1;have um:=aa s1;have aO:=aa k1;clear h1 s1 k1 eY;go_wp2_with fail;go_loopw [4] (λi wr=>∃(j:Nat) (bw:Bool) (v3:Value) (b3:List Int),j<=n/\i=.int .i64 j/\Hid (PS w0 p bw v3 b3 wr)/\Hid (St (id++u0++(l.take j).flatMap ak.uB) bw b3)/\Hid (Kept p v w v3 wr)) (λi _=>n-(Lib.intOf i).toNat)
 case atStart=>exact ⟨0,df,v1,b1,by omega,rfl,uk,aa (by simpa using um.out),aO⟩
 case round =>
  clear uk um aO;obtain ⟨j,bw,v3,b3,hj,rfl,iU,HST,ba⟩:=hrel;have ko:=iU.out.tK;by_cases hgo:j<n
  ·obtain ⟨b1,aJ,gb,hv1,hx1⟩:=Row.some HL.out (by omega);injection hv1 with cJ e11 e12;subst cJ;clear e11 e12;obtain ⟨x,hxk⟩:∃x,l[j]?=some x:=⟨_,aY (by omega)⟩;have cx:=aj iU.out.below (hx1 j x hxk);simp only [Nat.mul_one] at cx;have eU:=aa hxk;have iQ:Hid ((l.take (j+1)).flatMap ak.uB=(l.take j).flatMap ak.uB++ak.uB x):=aa (ry eU.out);clear hxk hx1;cases bw with
   | true =>
    have HF:Hid (St (id++kv l) true b3):=aa (by
     have h1:=(HST.out.more rfl ((l.drop j).flatMap ak.uB));rw [bf,bf,<- vR,List.take_append_drop] at h1;unfold kv;rw [eQ.out,lC.out];exact h1)
    go_wp2;go_end0;exact ⟨_,_,_,rfl,iU.out,HF.out,ba.out⟩
   | false =>
    have HC:=aa (dU w0 p false v3 b3 _ x wr iU.out HST.out (HR.out x (dK eU.out)).1 (by have:=(HR.out x (dK eU.out)).2;omega));go_wp2_with fail;refine HC.out.mono ?_;rintro e w4 ⟨dO,v4,b4,rfl,h4,s4,k4⟩;have cm:=aa h4;have jS:Hid (St (id++u0++(l.take (j+1)).flatMap ak.uB) dO b4):=aa (by rw [iQ.out,<- bf];exact s4);have bO:=aa (ba.out.trans k4);clear h4 s4 k4 HC;go_wp2;go_roundw
    case rel=>exact ⟨j+1,dO,v4,b4,by omega,by go_num,cm,jS,bO⟩
    case measure=>simp [Lib.intOf];omega
  obtain rfl:n=j:=by omega
  have HF:Hid (St (id++kv l) bw b3):=aa (by
   have h1:=HST.out;rw [jZ (by have:=eQ.out;omega),bf] at h1;unfold kv;rw [eQ.out,lC.out];exact h1)
  go_wp2;go_end0;exact ⟨_,_,_,rfl,iU.out,HF.out,ba.out⟩
theorem J1 (w0:World) (p:Nat) (ov:Bool) (v:Value) (bs id:List Int) (lv:Value) (l:List Int) (w:World) (h:PS w0 p ov v bs w) (hS:St id ov bs) (hL:Ints w0 lv l) :
  Calls prog 97 #[.pointer (some ⟨p,0,none⟩),lv] w (gH w0 p v w (id++pM l)):=by
 obtain ⟨oL,kL,rfl⟩:=Row.len hL;have la:=hL.1;have eY:=aa (dU w0 p ov v bs id (l.length:Int) w h hS (by omega) (by omega));have HL:=aa hL;clear h hS hL;generalize hna:l.length=n at *;have eQ:=aa hna;obtain ⟨u0,hu0⟩:∃u0,ak.uB (n:Int)=u0:=⟨_,rfl⟩;rw [hu0] at eY;have lC:=aa hu0;clear hu0;go_enter func97,ntmps97;go_wp2_with fail;refine eY.out.mono ?_;rintro e w1 ⟨df,v1,b1,rfl,h1,s1,k1⟩;have uk:=aa h1;have um:=aa s1;have aO:=aa k1;clear h1 s1 k1 eY;go_wp2_with fail;go_loopw [4] (λi wr=>∃(j:Nat) (bw:Bool) (v3:Value) (b3:List Int),j<=n/\i=.int .i64 j/\Hid (PS w0 p bw v3 b3 wr)/\Hid (St (id++u0++(l.take j).flatMap (λx:Int=>[x%256])) bw b3)/\Hid (Kept p v w v3 wr)) (λi _=>n-(Lib.intOf i).toNat)
 case atStart=>exact ⟨0,df,v1,b1,by omega,rfl,uk,aa (by simpa using um.out),aO⟩
 case round =>
  clear uk um aO;obtain ⟨j,bw,v3,b3,hj,rfl,iU,HST,ba⟩:=hrel;have ko:=iU.out.tK;by_cases hgo:j<n
  ·obtain ⟨b1,aJ,gb,hv1,hx1⟩:=Row.some HL.out (by omega);injection hv1 with cJ e11 e12;subst cJ;clear e11 e12;obtain ⟨x,hxk⟩:∃x,l[j]?=some x:=⟨_,aY (by omega)⟩;have cx:=aj iU.out.below (hx1 j x hxk);simp only [Nat.mul_one] at cx;have eU:=aa hxk;have iQ:Hid ((l.take (j+1)).flatMap (λx:Int=>[x%256])=(l.take j).flatMap (λx:Int=>[x%256])++[x%256]):=aa (ry eU.out);clear hxk hx1;have HC:=aa (dV w0 p bw v3 b3 _ x wr iU.out HST.out);go_wp2_with fail;refine HC.out.mono ?_;rintro e w4 ⟨dO,v4,b4,rfl,h4,s4,k4⟩;have cm:=aa h4;have jS:Hid (St (id++u0++(l.take (j+1)).flatMap (λx:Int=>[x%256])) dO b4):=aa (by rw [iQ.out,<- bf];exact s4);have bO:=aa (ba.out.trans k4);clear h4 s4 k4 HC;go_wp2;go_roundw
   case rel=>exact ⟨j+1,dO,v4,b4,by omega,by go_num,cm,jS,bO⟩
   case measure=>simp [Lib.intOf];omega
  obtain rfl:n=j:=by omega
  have HF:Hid (St (id++pM l) bw b3):=aa (by
   have h1:=HST.out;rw [jZ (by have:=eQ.out;omega),bf] at h1;unfold pM;rw [eQ.out,lC.out];exact h1)
  go_wp2;go_end0;exact ⟨_,_,_,rfl,iU.out,HF.out,ba.out⟩
namespace Enc
def mK (w0:World) (p:Nat) (d:Nat):Prop:=∀(lv:Value) (l:IL d) (ov:Bool) (v:Value) (bs id:List Int) (w:World),PS w0 p ov v bs w->St id ov bs->At w0 d lv l->Rg d l ->
 Calls prog 117 #[.pointer (some ⟨p,0,none⟩),lv] w (gH w0 p v w (id++aQ d l))
end Enc
end Go.Proofs.YtmfcojpjpgldhaaGreatDoor
