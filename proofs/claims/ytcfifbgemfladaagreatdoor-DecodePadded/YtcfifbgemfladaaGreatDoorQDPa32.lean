/- Texts that the claim needs. -/
import Derived.Test.YtcfifbgemfladaaGreatDoorQDPa0
import Derived.Test.YtcfifbgemfladaaGreatDoorQDPa31
namespace Go.Proofs.YtcfifbgemfladaaGreatDoor
open Go.RowKit au Go.Proofs.Tryz
set_option linter.unusedVariables false
set_option maxHeartbeats 1000000
theorem acg (op:Int) (w:AG) (h:26<=op/\op<=26):Calls prog 104 #[.int .i64 op] w λe w'=>e=.returned (.int .i64 1)/\w'=w:=by
 have hs:=fJ op;have hp:decide (0<(aZ.sig op).1)=false:=by exact aj (λhp=>by have:=hs.1 hp;omega)
 clear hs;obtain rfl:op=26:=by omega
 clear h;go_enter func104,ntmps104;go_wp2_with fail;refine (fK _ _).mono ?_;rintro e u ⟨rfl,rfl⟩;generalize aZ.sig 26=t at *;go_wp2;go_ret;exact ⟨rfl,rfl⟩
theorem ach (op:Int) (w:AG) (h:27<=op/\op<=27):Calls prog 104 #[.int .i64 op] w λe w'=>e=.returned (.int .i64 1)/\w'=w:=by
 have hs:=fJ op;have hp:decide (0<(aZ.sig op).1)=false:=by exact aj (λhp=>by have:=hs.1 hp;omega)
 clear hs;obtain rfl:op=27:=by omega
 clear h;go_enter func104,ntmps104;go_wp2_with fail;refine (fK _ _).mono ?_;rintro e u ⟨rfl,rfl⟩;generalize aZ.sig 27=t at *;go_wp2;go_ret;exact ⟨rfl,rfl⟩
theorem aci (op:Int) (w:AG) (h:28<=op/\op<=31):Calls prog 104 #[.int .i64 op] w λe w'=>e=.returned (.int .i64 0)/\w'=w:=by
 have hs:=fJ op;have hp:decide (0<(aZ.sig op).1)=false:=by exact aj (λhp=>by have:=hs.1 hp;omega)
 clear hs;obtain ⟨q0,q1,iK,iL,iM,iN,iO,q2,q3,q4,iP,iQ,iR,q16,iS,iT,iU,iV,iW,kv,kx,ky,kz,kC,kD,_⟩:=AN op [0,1,15,26,27,63,64,2,3,4,12,13,14,16,17,40,41,65,66,42,43,56,57,67,68] (by simp;omega);have r32:decide (32<=op/\op<=36)=false:=aj;have R32:=ah r32;clear r32;have eD:decide (44<=op/\op<=55)=false:=aj;have jO:=ah eD;clear eD;have eH:decide (58<=op/\op<=62)=false:=aj;have kE:=ah eH;clear eH;have eM:decide (91<=op/\op<=102)=false:=aj;have kR:=ah eM;clear eM;have eO:decide (139<=op/\op<=166)=false:=aj;have lu:=ah eO;clear eO;have eP:decide (168<=op/\op<=171)=false:=aj;have lT:=ah eP;clear eP;have eQ:decide (174<=op/\op<=191)=false:=aj;have mh:=ah eQ;clear eQ;clear h;go_enter func104,ntmps104;go_wp2_with fail;refine (fK _ _).mono ?_;rintro e u ⟨rfl,rfl⟩;generalize aZ.sig op=t at *;go_wp2_with fail;refine (aX _ _ _ _).mono ?_;rintro e u ⟨rfl,rfl⟩;rw [R32.out];go_wp2_with fail;refine (aX _ _ _ _).mono ?_;rintro e u ⟨rfl,rfl⟩;rw [jO.out];go_wp2_with fail;refine (aX _ _ _ _).mono ?_;rintro e u ⟨rfl,rfl⟩;rw [kE.out];go_wp2_with fail;refine (aX _ _ _ _).mono ?_;rintro e u ⟨rfl,rfl⟩;rw [kR.out];go_wp2_with fail;refine (aX _ _ _ _).mono ?_;rintro e u ⟨rfl,rfl⟩;rw [lu.out];go_wp2_with fail;refine (aX _ _ _ _).mono ?_;rintro e u ⟨rfl,rfl⟩;rw [lT.out];go_wp2_with fail;refine (aX _ _ _ _).mono ?_;rintro e u ⟨rfl,rfl⟩;rw [mh.out];go_wp2;go_ret;exact ⟨rfl,rfl⟩
theorem acj (op:Int) (w:AG) (h:32<=op/\op<=36):Calls prog 104 #[.int .i64 op] w λe w'=>e=.returned (.int .i64 6)/\w'=w:=by
 have hs:=fJ op;have hp:decide (0<(aZ.sig op).1)=false:=by exact aj (λhp=>by have:=hs.1 hp;omega)
 clear hs;obtain ⟨q0,q1,iK,iL,iM,iN,iO,q2,q3,q4,iP,iQ,iR,q16,iS,iT,iU,iV,iW,kv,kx,ky,kz,kC,kD,_⟩:=AN op [0,1,15,26,27,63,64,2,3,4,12,13,14,16,17,40,41,65,66,42,43,56,57,67,68] (by simp;omega);have r32:decide (32<=op/\op<=36)=true:=ay;have R32:=ah r32;clear r32;have eD:decide (44<=op/\op<=55)=false:=aj;have jO:=ah eD;clear eD;have eH:decide (58<=op/\op<=62)=false:=aj;have kE:=ah eH;clear eH;have eM:decide (91<=op/\op<=102)=false:=aj;have kR:=ah eM;clear eM;have eO:decide (139<=op/\op<=166)=false:=aj;have lu:=ah eO;clear eO;have eP:decide (168<=op/\op<=171)=false:=aj;have lT:=ah eP;clear eP;have eQ:decide (174<=op/\op<=191)=false:=aj;have mh:=ah eQ;clear eQ;clear h;go_enter func104,ntmps104;go_wp2_with fail;refine (fK _ _).mono ?_;rintro e u ⟨rfl,rfl⟩;generalize aZ.sig op=t at *;go_wp2_with fail;refine (aX _ _ _ _).mono ?_;rintro e u ⟨rfl,rfl⟩;rw [R32.out];go_wp2;go_ret;exact ⟨rfl,rfl⟩
theorem ack (op:Int) (w:AG) (h:37<=op/\op<=39):Calls prog 104 #[.int .i64 op] w λe w'=>e=.returned (.int .i64 0)/\w'=w:=by
 have hs:=fJ op;have hp:decide (0<(aZ.sig op).1)=false:=by exact aj (λhp=>by have:=hs.1 hp;omega)
 clear hs;obtain ⟨q0,q1,iK,iL,iM,iN,iO,q2,q3,q4,iP,iQ,iR,q16,iS,iT,iU,iV,iW,kv,kx,ky,kz,kC,kD,_⟩:=AN op [0,1,15,26,27,63,64,2,3,4,12,13,14,16,17,40,41,65,66,42,43,56,57,67,68] (by simp;omega);have r32:decide (32<=op/\op<=36)=false:=aj;have R32:=ah r32;clear r32;have eD:decide (44<=op/\op<=55)=false:=aj;have jO:=ah eD;clear eD;have eH:decide (58<=op/\op<=62)=false:=aj;have kE:=ah eH;clear eH;have eM:decide (91<=op/\op<=102)=false:=aj;have kR:=ah eM;clear eM;have eO:decide (139<=op/\op<=166)=false:=aj;have lu:=ah eO;clear eO;have eP:decide (168<=op/\op<=171)=false:=aj;have lT:=ah eP;clear eP;have eQ:decide (174<=op/\op<=191)=false:=aj;have mh:=ah eQ;clear eQ;clear h;go_enter func104,ntmps104;go_wp2_with fail;refine (fK _ _).mono ?_;rintro e u ⟨rfl,rfl⟩;generalize aZ.sig op=t at *;go_wp2_with fail;refine (aX _ _ _ _).mono ?_;rintro e u ⟨rfl,rfl⟩;rw [R32.out];go_wp2_with fail;refine (aX _ _ _ _).mono ?_;rintro e u ⟨rfl,rfl⟩;rw [jO.out];go_wp2_with fail;refine (aX _ _ _ _).mono ?_;rintro e u ⟨rfl,rfl⟩;rw [kE.out];go_wp2_with fail;refine (aX _ _ _ _).mono ?_;rintro e u ⟨rfl,rfl⟩;rw [kR.out];go_wp2_with fail;refine (aX _ _ _ _).mono ?_;rintro e u ⟨rfl,rfl⟩;rw [lu.out];go_wp2_with fail;refine (aX _ _ _ _).mono ?_;rintro e u ⟨rfl,rfl⟩;rw [lT.out];go_wp2_with fail;refine (aX _ _ _ _).mono ?_;rintro e u ⟨rfl,rfl⟩;rw [mh.out];go_wp2;go_ret;exact ⟨rfl,rfl⟩
theorem acm (op:Int) (w:AG) (h:40<=op/\op<=40):Calls prog 104 #[.int .i64 op] w λe w'=>e=.returned (.int .i64 8)/\w'=w:=by
 have hs:=fJ op;have hp:decide (0<(aZ.sig op).1)=false:=by exact aj (λhp=>by have:=hs.1 hp;omega)
 clear hs;obtain rfl:op=40:=by omega
 clear h;go_enter func104,ntmps104;go_wp2_with fail;refine (fK _ _).mono ?_;rintro e u ⟨rfl,rfl⟩;generalize aZ.sig 40=t at *;go_wp2_with fail;refine (aX _ _ _ _).mono ?_;rintro e u ⟨rfl,rfl⟩;rw [show decide ((32:Int)<=40/\(40:Int)<=36)=false by decide];go_wp2;go_ret;exact ⟨rfl,rfl⟩
theorem acn (op:Int) (w:AG) (h:41<=op/\op<=41):Calls prog 104 #[.int .i64 op] w λe w'=>e=.returned (.int .i64 8)/\w'=w:=by
 have hs:=fJ op;have hp:decide (0<(aZ.sig op).1)=false:=by exact aj (λhp=>by have:=hs.1 hp;omega)
 clear hs;obtain rfl:op=41:=by omega
 clear h;go_enter func104,ntmps104;go_wp2_with fail;refine (fK _ _).mono ?_;rintro e u ⟨rfl,rfl⟩;generalize aZ.sig 41=t at *;go_wp2_with fail;refine (aX _ _ _ _).mono ?_;rintro e u ⟨rfl,rfl⟩;rw [show decide ((32:Int)<=41/\(41:Int)<=36)=false by decide];go_wp2;go_ret;exact ⟨rfl,rfl⟩
theorem aco (op:Int) (w:AG) (h:42<=op/\op<=42):Calls prog 104 #[.int .i64 op] w λe w'=>e=.returned (.int .i64 10)/\w'=w:=by
 have hs:=fJ op;have hp:decide (0<(aZ.sig op).1)=false:=by exact aj (λhp=>by have:=hs.1 hp;omega)
 clear hs;obtain rfl:op=42:=by omega
 clear h;go_enter func104,ntmps104;go_wp2_with fail;refine (fK _ _).mono ?_;rintro e u ⟨rfl,rfl⟩;generalize aZ.sig 42=t at *;go_wp2_with fail;refine (aX _ _ _ _).mono ?_;rintro e u ⟨rfl,rfl⟩;rw [show decide ((32:Int)<=42/\(42:Int)<=36)=false by decide];go_wp2_with fail;refine (aX _ _ _ _).mono ?_;rintro e u ⟨rfl,rfl⟩;rw [show decide ((44:Int)<=42/\(42:Int)<=55)=false by decide];go_wp2_with fail;refine (aX _ _ _ _).mono ?_;rintro e u ⟨rfl,rfl⟩;rw [show decide ((58:Int)<=42/\(42:Int)<=62)=false by decide];go_wp2;go_ret;exact ⟨rfl,rfl⟩
theorem acp (op:Int) (w:AG) (h:43<=op/\op<=43):Calls prog 104 #[.int .i64 op] w λe w'=>e=.returned (.int .i64 10)/\w'=w:=by
 have hs:=fJ op;have hp:decide (0<(aZ.sig op).1)=false:=by exact aj (λhp=>by have:=hs.1 hp;omega)
 clear hs;obtain rfl:op=43:=by omega
 clear h;go_enter func104,ntmps104;go_wp2_with fail;refine (fK _ _).mono ?_;rintro e u ⟨rfl,rfl⟩;generalize aZ.sig 43=t at *;go_wp2_with fail;refine (aX _ _ _ _).mono ?_;rintro e u ⟨rfl,rfl⟩;rw [show decide ((32:Int)<=43/\(43:Int)<=36)=false by decide];go_wp2_with fail;refine (aX _ _ _ _).mono ?_;rintro e u ⟨rfl,rfl⟩;rw [show decide ((44:Int)<=43/\(43:Int)<=55)=false by decide];go_wp2_with fail;refine (aX _ _ _ _).mono ?_;rintro e u ⟨rfl,rfl⟩;rw [show decide ((58:Int)<=43/\(43:Int)<=62)=false by decide];go_wp2;go_ret;exact ⟨rfl,rfl⟩
theorem acr (op:Int) (w:AG) (h:44<=op/\op<=55):Calls prog 104 #[.int .i64 op] w λe w'=>e=.returned (.int .i64 8)/\w'=w:=by
 have hs:=fJ op;have hp:decide (0<(aZ.sig op).1)=false:=by exact aj (λhp=>by have:=hs.1 hp;omega)
 clear hs;obtain ⟨q0,q1,iK,iL,iM,iN,iO,q2,q3,q4,iP,iQ,iR,q16,iS,iT,iU,iV,iW,kv,kx,ky,kz,kC,kD,_⟩:=AN op [0,1,15,26,27,63,64,2,3,4,12,13,14,16,17,40,41,65,66,42,43,56,57,67,68] (by simp;omega);have r32:decide (32<=op/\op<=36)=false:=aj;have R32:=ah r32;clear r32;have eD:decide (44<=op/\op<=55)=true:=ay;have jO:=ah eD;clear eD;have eH:decide (58<=op/\op<=62)=false:=aj;have kE:=ah eH;clear eH;have eM:decide (91<=op/\op<=102)=false:=aj;have kR:=ah eM;clear eM;have eO:decide (139<=op/\op<=166)=false:=aj;have lu:=ah eO;clear eO;have eP:decide (168<=op/\op<=171)=false:=aj;have lT:=ah eP;clear eP;have eQ:decide (174<=op/\op<=191)=false:=aj;have mh:=ah eQ;clear eQ;clear h;go_enter func104,ntmps104;go_wp2_with fail;refine (fK _ _).mono ?_;rintro e u ⟨rfl,rfl⟩;generalize aZ.sig op=t at *;go_wp2_with fail;refine (aX _ _ _ _).mono ?_;rintro e u ⟨rfl,rfl⟩;rw [R32.out];go_wp2_with fail;refine (aX _ _ _ _).mono ?_;rintro e u ⟨rfl,rfl⟩;rw [jO.out];go_wp2;go_ret;exact ⟨rfl,rfl⟩
theorem acs (op:Int) (w:AG) (h:56<=op/\op<=56):Calls prog 104 #[.int .i64 op] w λe w'=>e=.returned (.int .i64 10)/\w'=w:=by
 have hs:=fJ op;have hp:decide (0<(aZ.sig op).1)=false:=by exact aj (λhp=>by have:=hs.1 hp;omega)
 clear hs;obtain rfl:op=56:=by omega
 clear h;go_enter func104,ntmps104;go_wp2_with fail;refine (fK _ _).mono ?_;rintro e u ⟨rfl,rfl⟩;generalize aZ.sig 56=t at *;go_wp2_with fail;refine (aX _ _ _ _).mono ?_;rintro e u ⟨rfl,rfl⟩;rw [show decide ((32:Int)<=56/\(56:Int)<=36)=false by decide];go_wp2_with fail;refine (aX _ _ _ _).mono ?_;rintro e u ⟨rfl,rfl⟩;rw [show decide ((44:Int)<=56/\(56:Int)<=55)=false by decide];go_wp2_with fail;refine (aX _ _ _ _).mono ?_;rintro e u ⟨rfl,rfl⟩;rw [show decide ((58:Int)<=56/\(56:Int)<=62)=false by decide];go_wp2;go_ret;exact ⟨rfl,rfl⟩
theorem acu (op:Int) (w:AG) (h:57<=op/\op<=57):Calls prog 104 #[.int .i64 op] w λe w'=>e=.returned (.int .i64 10)/\w'=w:=by
 have hs:=fJ op;have hp:decide (0<(aZ.sig op).1)=false:=by exact aj (λhp=>by have:=hs.1 hp;omega)
 clear hs;obtain rfl:op=57:=by omega
 clear h;go_enter func104,ntmps104;go_wp2_with fail;refine (fK _ _).mono ?_;rintro e u ⟨rfl,rfl⟩;generalize aZ.sig 57=t at *;go_wp2_with fail;refine (aX _ _ _ _).mono ?_;rintro e u ⟨rfl,rfl⟩;rw [show decide ((32:Int)<=57/\(57:Int)<=36)=false by decide];go_wp2_with fail;refine (aX _ _ _ _).mono ?_;rintro e u ⟨rfl,rfl⟩;rw [show decide ((44:Int)<=57/\(57:Int)<=55)=false by decide];go_wp2_with fail;refine (aX _ _ _ _).mono ?_;rintro e u ⟨rfl,rfl⟩;rw [show decide ((58:Int)<=57/\(57:Int)<=62)=false by decide];go_wp2;go_ret;exact ⟨rfl,rfl⟩
theorem acv (op:Int) (w:AG) (h:58<=op/\op<=62):Calls prog 104 #[.int .i64 op] w λe w'=>e=.returned (.int .i64 8)/\w'=w:=by
 have hs:=fJ op;have hp:decide (0<(aZ.sig op).1)=false:=by exact aj (λhp=>by have:=hs.1 hp;omega)
 clear hs;obtain ⟨q0,q1,iK,iL,iM,iN,iO,q2,q3,q4,iP,iQ,iR,q16,iS,iT,iU,iV,iW,kv,kx,ky,kz,kC,kD,_⟩:=AN op [0,1,15,26,27,63,64,2,3,4,12,13,14,16,17,40,41,65,66,42,43,56,57,67,68] (by simp;omega);have r32:decide (32<=op/\op<=36)=false:=aj;have R32:=ah r32;clear r32;have eD:decide (44<=op/\op<=55)=false:=aj;have jO:=ah eD;clear eD;have eH:decide (58<=op/\op<=62)=true:=ay;have kE:=ah eH;clear eH;have eM:decide (91<=op/\op<=102)=false:=aj;have kR:=ah eM;clear eM;have eO:decide (139<=op/\op<=166)=false:=aj;have lu:=ah eO;clear eO;have eP:decide (168<=op/\op<=171)=false:=aj;have lT:=ah eP;clear eP;have eQ:decide (174<=op/\op<=191)=false:=aj;have mh:=ah eQ;clear eQ;clear h;go_enter func104,ntmps104;go_wp2_with fail;refine (fK _ _).mono ?_;rintro e u ⟨rfl,rfl⟩;generalize aZ.sig op=t at *;go_wp2_with fail;refine (aX _ _ _ _).mono ?_;rintro e u ⟨rfl,rfl⟩;rw [R32.out];go_wp2_with fail;refine (aX _ _ _ _).mono ?_;rintro e u ⟨rfl,rfl⟩;rw [jO.out];go_wp2_with fail;refine (aX _ _ _ _).mono ?_;rintro e u ⟨rfl,rfl⟩;rw [kE.out];go_wp2;go_ret;exact ⟨rfl,rfl⟩
theorem acw (op:Int) (w:AG) (h:63<=op/\op<=63):Calls prog 104 #[.int .i64 op] w λe w'=>e=.returned (.int .i64 1)/\w'=w:=by
 have hs:=fJ op;have hp:decide (0<(aZ.sig op).1)=false:=by exact aj (λhp=>by have:=hs.1 hp;omega)
 clear hs;obtain rfl:op=63:=by omega
 clear h;go_enter func104,ntmps104;go_wp2_with fail;refine (fK _ _).mono ?_;rintro e u ⟨rfl,rfl⟩;generalize aZ.sig 63=t at *;go_wp2;go_ret;exact ⟨rfl,rfl⟩
theorem abt (op:Int) (w:AG) (h:64<=op/\op<=64):Calls prog 104 #[.int .i64 op] w λe w'=>e=.returned (.int .i64 1)/\w'=w:=by
 have hs:=fJ op;have hp:decide (0<(aZ.sig op).1)=false:=by exact aj (λhp=>by have:=hs.1 hp;omega)
 clear hs;obtain rfl:op=64:=by omega
 clear h;go_enter func104,ntmps104;go_wp2_with fail;refine (fK _ _).mono ?_;rintro e u ⟨rfl,rfl⟩;generalize aZ.sig 64=t at *;go_wp2;go_ret;exact ⟨rfl,rfl⟩
theorem abu (op:Int) (w:AG) (h:65<=op/\op<=65):Calls prog 104 #[.int .i64 op] w λe w'=>e=.returned (.int .i64 9)/\w'=w:=by
 have hs:=fJ op;have hp:decide (0<(aZ.sig op).1)=false:=by exact aj (λhp=>by have:=hs.1 hp;omega)
 clear hs;obtain rfl:op=65:=by omega
 clear h;go_enter func104,ntmps104;go_wp2_with fail;refine (fK _ _).mono ?_;rintro e u ⟨rfl,rfl⟩;generalize aZ.sig 65=t at *;go_wp2_with fail;refine (aX _ _ _ _).mono ?_;rintro e u ⟨rfl,rfl⟩;rw [show decide ((32:Int)<=65/\(65:Int)<=36)=false by decide];go_wp2_with fail;refine (aX _ _ _ _).mono ?_;rintro e u ⟨rfl,rfl⟩;rw [show decide ((44:Int)<=65/\(65:Int)<=55)=false by decide];go_wp2_with fail;refine (aX _ _ _ _).mono ?_;rintro e u ⟨rfl,rfl⟩;rw [show decide ((58:Int)<=65/\(65:Int)<=62)=false by decide];go_wp2;go_ret;exact ⟨rfl,rfl⟩
theorem abv (op:Int) (w:AG) (h:66<=op/\op<=66):Calls prog 104 #[.int .i64 op] w λe w'=>e=.returned (.int .i64 9)/\w'=w:=by
 have hs:=fJ op;have hp:decide (0<(aZ.sig op).1)=false:=by exact aj (λhp=>by have:=hs.1 hp;omega)
 clear hs;obtain rfl:op=66:=by omega
 clear h;go_enter func104,ntmps104;go_wp2_with fail;refine (fK _ _).mono ?_;rintro e u ⟨rfl,rfl⟩;generalize aZ.sig 66=t at *;go_wp2_with fail;refine (aX _ _ _ _).mono ?_;rintro e u ⟨rfl,rfl⟩;rw [show decide ((32:Int)<=66/\(66:Int)<=36)=false by decide];go_wp2_with fail;refine (aX _ _ _ _).mono ?_;rintro e u ⟨rfl,rfl⟩;rw [show decide ((44:Int)<=66/\(66:Int)<=55)=false by decide];go_wp2_with fail;refine (aX _ _ _ _).mono ?_;rintro e u ⟨rfl,rfl⟩;rw [show decide ((58:Int)<=66/\(66:Int)<=62)=false by decide];go_wp2;go_ret;exact ⟨rfl,rfl⟩
theorem abw (op:Int) (w:AG) (h:67<=op/\op<=67):Calls prog 104 #[.int .i64 op] w λe w'=>e=.returned (.int .i64 10)/\w'=w:=by
 have hs:=fJ op;have hp:decide (0<(aZ.sig op).1)=false:=by exact aj (λhp=>by have:=hs.1 hp;omega)
 clear hs;obtain rfl:op=67:=by omega
 clear h;go_enter func104,ntmps104;go_wp2_with fail;refine (fK _ _).mono ?_;rintro e u ⟨rfl,rfl⟩;generalize aZ.sig 67=t at *;go_wp2_with fail;refine (aX _ _ _ _).mono ?_;rintro e u ⟨rfl,rfl⟩;rw [show decide ((32:Int)<=67/\(67:Int)<=36)=false by decide];go_wp2_with fail;refine (aX _ _ _ _).mono ?_;rintro e u ⟨rfl,rfl⟩;rw [show decide ((44:Int)<=67/\(67:Int)<=55)=false by decide];go_wp2_with fail;refine (aX _ _ _ _).mono ?_;rintro e u ⟨rfl,rfl⟩;rw [show decide ((58:Int)<=67/\(67:Int)<=62)=false by decide];go_wp2;go_ret;exact ⟨rfl,rfl⟩
theorem abx (op:Int) (w:AG) (h:68<=op/\op<=68):Calls prog 104 #[.int .i64 op] w λe w'=>e=.returned (.int .i64 10)/\w'=w:=by
 have hs:=fJ op;have hp:decide (0<(aZ.sig op).1)=false:=by exact aj (λhp=>by have:=hs.1 hp;omega)
 clear hs;obtain rfl:op=68:=by omega
 clear h;go_enter func104,ntmps104;go_wp2_with fail;refine (fK _ _).mono ?_;rintro e u ⟨rfl,rfl⟩;generalize aZ.sig 68=t at *;go_wp2_with fail;refine (aX _ _ _ _).mono ?_;rintro e u ⟨rfl,rfl⟩;rw [show decide ((32:Int)<=68/\(68:Int)<=36)=false by decide];go_wp2_with fail;refine (aX _ _ _ _).mono ?_;rintro e u ⟨rfl,rfl⟩;rw [show decide ((44:Int)<=68/\(68:Int)<=55)=false by decide];go_wp2_with fail;refine (aX _ _ _ _).mono ?_;rintro e u ⟨rfl,rfl⟩;rw [show decide ((58:Int)<=68/\(68:Int)<=62)=false by decide];go_wp2;go_ret;exact ⟨rfl,rfl⟩
theorem aby (op:Int) (w:AG) (h:69<=op/\op<=90):Calls prog 104 #[.int .i64 op] w λe w'=>e=.returned (.int .i64 1)/\w'=w:=by
 have hs:=fJ op;have hp:decide (0<(aZ.sig op).1)=true:=by exact ay (hs.2 (by omega))
 clear hs;obtain ⟨q0,q1,iK,iL,iM,iN,iO,q2,q3,q4,iP,iQ,iR,q16,iS,iT,iU,iV,iW,kv,kx,ky,kz,kC,kD,_⟩:=AN op [0,1,15,26,27,63,64,2,3,4,12,13,14,16,17,40,41,65,66,42,43,56,57,67,68] (by simp;omega);have r32:decide (32<=op/\op<=36)=false:=aj;have R32:=ah r32;clear r32;have eD:decide (44<=op/\op<=55)=false:=aj;have jO:=ah eD;clear eD;have eH:decide (58<=op/\op<=62)=false:=aj;have kE:=ah eH;clear eH;have eM:decide (91<=op/\op<=102)=false:=aj;have kR:=ah eM;clear eM;have eO:decide (139<=op/\op<=166)=false:=aj;have lu:=ah eO;clear eO;have eP:decide (168<=op/\op<=171)=false:=aj;have lT:=ah eP;clear eP;have eQ:decide (174<=op/\op<=191)=false:=aj;have mh:=ah eQ;clear eQ;clear h;go_enter func104,ntmps104;go_wp2_with fail;refine (fK _ _).mono ?_;rintro e u ⟨rfl,rfl⟩;generalize aZ.sig op=t at *;go_wp2;go_ret;exact ⟨rfl,rfl⟩
theorem abz (op:Int) (w:AG) (h:91<=op/\op<=102):Calls prog 104 #[.int .i64 op] w λe w'=>e=.returned (.int .i64 10)/\w'=w:=by
 have hs:=fJ op;have hp:decide (0<(aZ.sig op).1)=false:=by exact aj (λhp=>by have:=hs.1 hp;omega)
 clear hs;obtain ⟨q0,q1,iK,iL,iM,iN,iO,q2,q3,q4,iP,iQ,iR,q16,iS,iT,iU,iV,iW,kv,kx,ky,kz,kC,kD,_⟩:=AN op [0,1,15,26,27,63,64,2,3,4,12,13,14,16,17,40,41,65,66,42,43,56,57,67,68] (by simp;omega);have r32:decide (32<=op/\op<=36)=false:=aj;have R32:=ah r32;clear r32;have eD:decide (44<=op/\op<=55)=false:=aj;have jO:=ah eD;clear eD;have eH:decide (58<=op/\op<=62)=false:=aj;have kE:=ah eH;clear eH;have eM:decide (91<=op/\op<=102)=true:=ay;have kR:=ah eM;clear eM;have eO:decide (139<=op/\op<=166)=false:=aj;have lu:=ah eO;clear eO;have eP:decide (168<=op/\op<=171)=false:=aj;have lT:=ah eP;clear eP;have eQ:decide (174<=op/\op<=191)=false:=aj;have mh:=ah eQ;clear eQ;clear h;go_enter func104,ntmps104;go_wp2_with fail;refine (fK _ _).mono ?_;rintro e u ⟨rfl,rfl⟩;generalize aZ.sig op=t at *;go_wp2_with fail;refine (aX _ _ _ _).mono ?_;rintro e u ⟨rfl,rfl⟩;rw [R32.out];go_wp2_with fail;refine (aX _ _ _ _).mono ?_;rintro e u ⟨rfl,rfl⟩;rw [jO.out];go_wp2_with fail;refine (aX _ _ _ _).mono ?_;rintro e u ⟨rfl,rfl⟩;rw [kE.out];go_wp2_with fail;refine (aX _ _ _ _).mono ?_;rintro e u ⟨rfl,rfl⟩;rw [kR.out];go_wp2;go_ret;exact ⟨rfl,rfl⟩
theorem abA (op:Int) (w:AG) (h:103<=op/\op<=138):Calls prog 104 #[.int .i64 op] w λe w'=>e=.returned (.int .i64 1)/\w'=w:=by
 have hs:=fJ op;have hp:decide (0<(aZ.sig op).1)=true:=by exact ay (hs.2 (by omega))
 clear hs;obtain ⟨q0,q1,iK,iL,iM,iN,iO,q2,q3,q4,iP,iQ,iR,q16,iS,iT,iU,iV,iW,kv,kx,ky,kz,kC,kD,_⟩:=AN op [0,1,15,26,27,63,64,2,3,4,12,13,14,16,17,40,41,65,66,42,43,56,57,67,68] (by simp;omega);have r32:decide (32<=op/\op<=36)=false:=aj;have R32:=ah r32;clear r32;have eD:decide (44<=op/\op<=55)=false:=aj;have jO:=ah eD;clear eD;have eH:decide (58<=op/\op<=62)=false:=aj;have kE:=ah eH;clear eH;have eM:decide (91<=op/\op<=102)=false:=aj;have kR:=ah eM;clear eM;have eO:decide (139<=op/\op<=166)=false:=aj;have lu:=ah eO;clear eO;have eP:decide (168<=op/\op<=171)=false:=aj;have lT:=ah eP;clear eP;have eQ:decide (174<=op/\op<=191)=false:=aj;have mh:=ah eQ;clear eQ;clear h;go_enter func104,ntmps104;go_wp2_with fail;refine (fK _ _).mono ?_;rintro e u ⟨rfl,rfl⟩;generalize aZ.sig op=t at *;go_wp2;go_ret;exact ⟨rfl,rfl⟩
theorem abB (op:Int) (w:AG) (h:139<=op/\op<=166):Calls prog 104 #[.int .i64 op] w λe w'=>e=.returned (.int .i64 10)/\w'=w:=by
 have hs:=fJ op;have hp:decide (0<(aZ.sig op).1)=false:=by exact aj (λhp=>by have:=hs.1 hp;omega)
 clear hs;obtain ⟨q0,q1,iK,iL,iM,iN,iO,q2,q3,q4,iP,iQ,iR,q16,iS,iT,iU,iV,iW,kv,kx,ky,kz,kC,kD,_⟩:=AN op [0,1,15,26,27,63,64,2,3,4,12,13,14,16,17,40,41,65,66,42,43,56,57,67,68] (by simp;omega);have r32:decide (32<=op/\op<=36)=false:=aj;have R32:=ah r32;clear r32;have eD:decide (44<=op/\op<=55)=false:=aj;have jO:=ah eD;clear eD;have eH:decide (58<=op/\op<=62)=false:=aj;have kE:=ah eH;clear eH;have eM:decide (91<=op/\op<=102)=false:=aj;have kR:=ah eM;clear eM;have eO:decide (139<=op/\op<=166)=true:=ay;have lu:=ah eO;clear eO;have eP:decide (168<=op/\op<=171)=false:=aj;have lT:=ah eP;clear eP;have eQ:decide (174<=op/\op<=191)=false:=aj;have mh:=ah eQ;clear eQ;clear h;go_enter func104,ntmps104;go_wp2_with fail;refine (fK _ _).mono ?_;rintro e u ⟨rfl,rfl⟩;generalize aZ.sig op=t at *;go_wp2_with fail;refine (aX _ _ _ _).mono ?_;rintro e u ⟨rfl,rfl⟩;rw [R32.out];go_wp2_with fail;refine (aX _ _ _ _).mono ?_;rintro e u ⟨rfl,rfl⟩;rw [jO.out];go_wp2_with fail;refine (aX _ _ _ _).mono ?_;rintro e u ⟨rfl,rfl⟩;rw [kE.out];go_wp2_with fail;refine (aX _ _ _ _).mono ?_;rintro e u ⟨rfl,rfl⟩;rw [kR.out];go_wp2_with fail;refine (aX _ _ _ _).mono ?_;rintro e u ⟨rfl,rfl⟩;rw [lu.out];go_wp2;go_ret;exact ⟨rfl,rfl⟩
theorem abC (op:Int) (w:AG) (h:167<=op/\op<=167):Calls prog 104 #[.int .i64 op] w λe w'=>e=.returned (.int .i64 1)/\w'=w:=by
 have hs:=fJ op;have hp:decide (0<(aZ.sig op).1)=true:=by exact ay (hs.2 (by omega))
 clear hs;obtain rfl:op=167:=by omega
 clear h;go_enter func104,ntmps104;go_wp2_with fail;refine (fK _ _).mono ?_;rintro e u ⟨rfl,rfl⟩;generalize aZ.sig 167=t at *;go_wp2;go_ret;exact ⟨rfl,rfl⟩
theorem abD (op:Int) (w:AG) (h:168<=op/\op<=171):Calls prog 104 #[.int .i64 op] w λe w'=>e=.returned (.int .i64 10)/\w'=w:=by
 have hs:=fJ op;have hp:decide (0<(aZ.sig op).1)=false:=by exact aj (λhp=>by have:=hs.1 hp;omega)
 clear hs;obtain ⟨q0,q1,iK,iL,iM,iN,iO,q2,q3,q4,iP,iQ,iR,q16,iS,iT,iU,iV,iW,kv,kx,ky,kz,kC,kD,_⟩:=AN op [0,1,15,26,27,63,64,2,3,4,12,13,14,16,17,40,41,65,66,42,43,56,57,67,68] (by simp;omega);have r32:decide (32<=op/\op<=36)=false:=aj;have R32:=ah r32;clear r32;have eD:decide (44<=op/\op<=55)=false:=aj;have jO:=ah eD;clear eD;have eH:decide (58<=op/\op<=62)=false:=aj;have kE:=ah eH;clear eH;have eM:decide (91<=op/\op<=102)=false:=aj;have kR:=ah eM;clear eM;have eO:decide (139<=op/\op<=166)=false:=aj;have lu:=ah eO;clear eO;have eP:decide (168<=op/\op<=171)=true:=ay;have lT:=ah eP;clear eP;have eQ:decide (174<=op/\op<=191)=false:=aj;have mh:=ah eQ;clear eQ;clear h;go_enter func104,ntmps104;go_wp2_with fail;refine (fK _ _).mono ?_;rintro e u ⟨rfl,rfl⟩;generalize aZ.sig op=t at *;go_wp2_with fail;refine (aX _ _ _ _).mono ?_;rintro e u ⟨rfl,rfl⟩;rw [R32.out];go_wp2_with fail;refine (aX _ _ _ _).mono ?_;rintro e u ⟨rfl,rfl⟩;rw [jO.out];go_wp2_with fail;refine (aX _ _ _ _).mono ?_;rintro e u ⟨rfl,rfl⟩;rw [kE.out];go_wp2_with fail;refine (aX _ _ _ _).mono ?_;rintro e u ⟨rfl,rfl⟩;rw [kR.out];go_wp2_with fail;refine (aX _ _ _ _).mono ?_;rintro e u ⟨rfl,rfl⟩;rw [lu.out];go_wp2_with fail;refine (aX _ _ _ _).mono ?_;rintro e u ⟨rfl,rfl⟩;rw [lT.out];go_wp2;go_ret;exact ⟨rfl,rfl⟩
theorem abE (op:Int) (w:AG) (h:172<=op/\op<=173):Calls prog 104 #[.int .i64 op] w λe w'=>e=.returned (.int .i64 1)/\w'=w:=by
 have hs:=fJ op;have hp:decide (0<(aZ.sig op).1)=true:=by exact ay (hs.2 (by omega))
 clear hs;obtain ⟨q0,q1,iK,iL,iM,iN,iO,q2,q3,q4,iP,iQ,iR,q16,iS,iT,iU,iV,iW,kv,kx,ky,kz,kC,kD,_⟩:=AN op [0,1,15,26,27,63,64,2,3,4,12,13,14,16,17,40,41,65,66,42,43,56,57,67,68] (by simp;omega);have r32:decide (32<=op/\op<=36)=false:=aj;have R32:=ah r32;clear r32;have eD:decide (44<=op/\op<=55)=false:=aj;have jO:=ah eD;clear eD;have eH:decide (58<=op/\op<=62)=false:=aj;have kE:=ah eH;clear eH;have eM:decide (91<=op/\op<=102)=false:=aj;have kR:=ah eM;clear eM;have eO:decide (139<=op/\op<=166)=false:=aj;have lu:=ah eO;clear eO;have eP:decide (168<=op/\op<=171)=false:=aj;have lT:=ah eP;clear eP;have eQ:decide (174<=op/\op<=191)=false:=aj;have mh:=ah eQ;clear eQ;clear h;go_enter func104,ntmps104;go_wp2_with fail;refine (fK _ _).mono ?_;rintro e u ⟨rfl,rfl⟩;generalize aZ.sig op=t at *;go_wp2;go_ret;exact ⟨rfl,rfl⟩
theorem abF (op:Int) (w:AG) (h:174<=op/\op<=191):Calls prog 104 #[.int .i64 op] w λe w'=>e=.returned (.int .i64 10)/\w'=w:=by
 have hs:=fJ op;have hp:decide (0<(aZ.sig op).1)=false:=by exact aj (λhp=>by have:=hs.1 hp;omega)
 clear hs;obtain ⟨q0,q1,iK,iL,iM,iN,iO,q2,q3,q4,iP,iQ,iR,q16,iS,iT,iU,iV,iW,kv,kx,ky,kz,kC,kD,_⟩:=AN op [0,1,15,26,27,63,64,2,3,4,12,13,14,16,17,40,41,65,66,42,43,56,57,67,68] (by simp;omega);have r32:decide (32<=op/\op<=36)=false:=aj;have R32:=ah r32;clear r32;have eD:decide (44<=op/\op<=55)=false:=aj;have jO:=ah eD;clear eD;have eH:decide (58<=op/\op<=62)=false:=aj;have kE:=ah eH;clear eH;have eM:decide (91<=op/\op<=102)=false:=aj;have kR:=ah eM;clear eM;have eO:decide (139<=op/\op<=166)=false:=aj;have lu:=ah eO;clear eO;have eP:decide (168<=op/\op<=171)=false:=aj;have lT:=ah eP;clear eP;have eQ:decide (174<=op/\op<=191)=true:=ay;have mh:=ah eQ;clear eQ;clear h;go_enter func104,ntmps104;go_wp2_with fail;refine (fK _ _).mono ?_;rintro e u ⟨rfl,rfl⟩;generalize aZ.sig op=t at *;go_wp2_with fail;refine (aX _ _ _ _).mono ?_;rintro e u ⟨rfl,rfl⟩;rw [R32.out];go_wp2_with fail;refine (aX _ _ _ _).mono ?_;rintro e u ⟨rfl,rfl⟩;rw [jO.out];go_wp2_with fail;refine (aX _ _ _ _).mono ?_;rintro e u ⟨rfl,rfl⟩;rw [kE.out];go_wp2_with fail;refine (aX _ _ _ _).mono ?_;rintro e u ⟨rfl,rfl⟩;rw [kR.out];go_wp2_with fail;refine (aX _ _ _ _).mono ?_;rintro e u ⟨rfl,rfl⟩;rw [lu.out];go_wp2_with fail;refine (aX _ _ _ _).mono ?_;rintro e u ⟨rfl,rfl⟩;rw [lT.out];go_wp2_with fail;refine (aX _ _ _ _).mono ?_;rintro e u ⟨rfl,rfl⟩;rw [mh.out];go_wp2;go_ret;exact ⟨rfl,rfl⟩
theorem abG (op:Int) (w:AG) (h:192<=op):Calls prog 104 #[.int .i64 op] w λe w'=>e=.returned (.int .i64 0)/\w'=w:=by
 have hs:=fJ op;have hp:decide (0<(aZ.sig op).1)=false:=by exact aj (λhp=>by have:=hs.1 hp;omega)
 clear hs;obtain ⟨q0,q1,iK,iL,iM,iN,iO,q2,q3,q4,iP,iQ,iR,q16,iS,iT,iU,iV,iW,kv,kx,ky,kz,kC,kD,_⟩:=AN op [0,1,15,26,27,63,64,2,3,4,12,13,14,16,17,40,41,65,66,42,43,56,57,67,68] (by simp;omega);have r32:decide (32<=op/\op<=36)=false:=aj;have R32:=ah r32;clear r32;have eD:decide (44<=op/\op<=55)=false:=aj;have jO:=ah eD;clear eD;have eH:decide (58<=op/\op<=62)=false:=aj;have kE:=ah eH;clear eH;have eM:decide (91<=op/\op<=102)=false:=aj;have kR:=ah eM;clear eM;have eO:decide (139<=op/\op<=166)=false:=aj;have lu:=ah eO;clear eO;have eP:decide (168<=op/\op<=171)=false:=aj;have lT:=ah eP;clear eP;have eQ:decide (174<=op/\op<=191)=false:=aj;have mh:=ah eQ;clear eQ;clear h;go_enter func104,ntmps104;go_wp2_with fail;refine (fK _ _).mono ?_;rintro e u ⟨rfl,rfl⟩;generalize aZ.sig op=t at *;go_wp2_with fail;refine (aX _ _ _ _).mono ?_;rintro e u ⟨rfl,rfl⟩;rw [R32.out];go_wp2_with fail;refine (aX _ _ _ _).mono ?_;rintro e u ⟨rfl,rfl⟩;rw [jO.out];go_wp2_with fail;refine (aX _ _ _ _).mono ?_;rintro e u ⟨rfl,rfl⟩;rw [kE.out];go_wp2_with fail;refine (aX _ _ _ _).mono ?_;rintro e u ⟨rfl,rfl⟩;rw [kR.out];go_wp2_with fail;refine (aX _ _ _ _).mono ?_;rintro e u ⟨rfl,rfl⟩;rw [lu.out];go_wp2_with fail;refine (aX _ _ _ _).mono ?_;rintro e u ⟨rfl,rfl⟩;rw [lT.out];go_wp2_with fail;refine (aX _ _ _ _).mono ?_;rintro e u ⟨rfl,rfl⟩;rw [mh.out];go_wp2;go_ret;exact ⟨rfl,rfl⟩
theorem bN (op:Int) (w:AG):Calls prog 104 #[.int .i64 op] w λe w'=>e=.returned (.int .i64 (form op))/\w'=w:=by
 by_cases c0:op<=-1
 ·have e:form op=0:=by
   unfold form
   repeat first|rw [AD (by omega)]|rw [AE (by omega)]
  rw [e];exact aaI op w (by omega)
 by_cases c1:op<=0
 ·have e:form op=1:=by
   unfold form
   repeat first|rw [AD (by omega)]|rw [AE (by omega)]
  rw [e];exact aaJ op w (by omega)
 by_cases c2:op<=1
 ·have e:form op=1:=by
   unfold form
   repeat first|rw [AD (by omega)]|rw [AE (by omega)]
  rw [e];exact aaK op w (by omega)
 by_cases c3:op<=2
 ·have e:form op=2:=by
   unfold form
   repeat first|rw [AD (by omega)]|rw [AE (by omega)]
  rw [e];exact aaL op w (by omega)
 by_cases c4:op<=3
 ·have e:form op=2:=by
   unfold form
   repeat first|rw [AD (by omega)]|rw [AE (by omega)]
  rw [e];exact aaM op w (by omega)
 by_cases c5:op<=4
 ·have e:form op=3:=by
   unfold form
   repeat first|rw [AD (by omega)]|rw [AE (by omega)]
  rw [e];exact aaN op w (by omega)
 by_cases c6:op<=11
 ·have e:form op=0:=by
   unfold form
   repeat first|rw [AD (by omega)]|rw [AE (by omega)]
  rw [e];exact aaO op w (by omega)
 by_cases c7:op<=12
 ·have e:form op=4:=by
   unfold form
   repeat first|rw [AD (by omega)]|rw [AE (by omega)]
  rw [e];exact aaP op w (by omega)
 by_cases c8:op<=13
 ·have e:form op=4:=by
   unfold form
   repeat first|rw [AD (by omega)]|rw [AE (by omega)]
  rw [e];exact aaQ op w (by omega)
 by_cases c9:op<=14
 ·have e:form op=5:=by
   unfold form
   repeat first|rw [AD (by omega)]|rw [AE (by omega)]
  rw [e];exact aaR op w (by omega)
 by_cases c10:op<=15
 ·have e:form op=1:=by
   unfold form
   repeat first|rw [AD (by omega)]|rw [AE (by omega)]
  rw [e];exact aaS op w (by omega)
 by_cases c11:op<=16
 ·have e:form op=6:=by
   unfold form
   repeat first|rw [AD (by omega)]|rw [AE (by omega)]
  rw [e];exact aaT op w (by omega)
 by_cases c12:op<=17
 ·have e:form op=7:=by
   unfold form
   repeat first|rw [AD (by omega)]|rw [AE (by omega)]
  rw [e];exact aaU op w (by omega)
 by_cases c13:op<=25
 ·have e:form op=0:=by
   unfold form
   repeat first|rw [AD (by omega)]|rw [AE (by omega)]
  rw [e];exact aaV op w (by omega)
 by_cases c14:op<=26
 ·have e:form op=1:=by
   unfold form
   repeat first|rw [AD (by omega)]|rw [AE (by omega)]
  rw [e];exact acg op w (by omega)
 by_cases c15:op<=27
 ·have e:form op=1:=by
   unfold form
   repeat first|rw [AD (by omega)]|rw [AE (by omega)]
  rw [e];exact ach op w (by omega)
 by_cases c16:op<=31
 ·have e:form op=0:=by
   unfold form
   repeat first|rw [AD (by omega)]|rw [AE (by omega)]
  rw [e];exact aci op w (by omega)
 by_cases c17:op<=36
 ·have e:form op=6:=by
   unfold form
   repeat first|rw [AD (by omega)]|rw [AE (by omega)]
  rw [e];exact acj op w (by omega)
 by_cases c18:op<=39
 ·have e:form op=0:=by
   unfold form
   repeat first|rw [AD (by omega)]|rw [AE (by omega)]
  rw [e];exact ack op w (by omega)
 by_cases c19:op<=40
 ·have e:form op=8:=by
   unfold form
   repeat first|rw [AD (by omega)]|rw [AE (by omega)]
  rw [e];exact acm op w (by omega)
 by_cases Va:op<=41
 ·have e:form op=8:=by
   unfold form
   repeat first|rw [AD (by omega)]|rw [AE (by omega)]
  rw [e];exact acn op w (by omega)
 by_cases c21:op<=42
 ·have e:form op=10:=by
   unfold form
   repeat first|rw [AD (by omega)]|rw [AE (by omega)]
  rw [e];exact aco op w (by omega)
 by_cases Di:op<=43
 ·have e:form op=10:=by
   unfold form
   repeat first|rw [AD (by omega)]|rw [AE (by omega)]
  rw [e];exact acp op w (by omega)
 by_cases IZ:op<=55
 ·have e:form op=8:=by
   unfold form
   repeat first|rw [AD (by omega)]|rw [AE (by omega)]
  rw [e];exact acr op w (by omega)
 by_cases I3:op<=56
 ·have e:form op=10:=by
   unfold form
   repeat first|rw [AD (by omega)]|rw [AE (by omega)]
  rw [e];exact acs op w (by omega)
 by_cases IG:op<=57
 ·have e:form op=10:=by
   unfold form
   repeat first|rw [AD (by omega)]|rw [AE (by omega)]
  rw [e];exact acu op w (by omega)
 by_cases BK:op<=62
 ·have e:form op=8:=by
   unfold form
   repeat first|rw [AD (by omega)]|rw [AE (by omega)]
  rw [e];exact acv op w (by omega)
 by_cases Vj:op<=63
 ·have e:form op=1:=by
   unfold form
   repeat first|rw [AD (by omega)]|rw [AE (by omega)]
  rw [e];exact acw op w (by omega)
 by_cases Vl:op<=64
 ·have e:form op=1:=by
   unfold form
   repeat first|rw [AD (by omega)]|rw [AE (by omega)]
  rw [e];exact abt op w (by omega)
 by_cases Vn:op<=65
 ·have e:form op=9:=by
   unfold form
   repeat first|rw [AD (by omega)]|rw [AE (by omega)]
  rw [e];exact abu op w (by omega)
 by_cases Vp:op<=66
 ·have e:form op=9:=by
   unfold form
   repeat first|rw [AD (by omega)]|rw [AE (by omega)]
  rw [e];exact abv op w (by omega)
 by_cases Vr:op<=67
 ·have e:form op=10:=by
   unfold form
   repeat first|rw [AD (by omega)]|rw [AE (by omega)]
  rw [e];exact abw op w (by omega)
 by_cases c32:op<=68
 ·have e:form op=10:=by
   unfold form
   repeat first|rw [AD (by omega)]|rw [AE (by omega)]
  rw [e];exact abx op w (by omega)
 by_cases Vu:op<=90
 ·have e:form op=1:=by
   unfold form
   repeat first|rw [AD (by omega)]|rw [AE (by omega)]
  rw [e];exact aby op w (by omega)
 by_cases Vw:op<=102
 ·have e:form op=10:=by
   unfold form
   repeat first|rw [AD (by omega)]|rw [AE (by omega)]
  rw [e];exact abz op w (by omega)
 by_cases Vy:op<=138
 ·have e:form op=1:=by
   unfold form
   repeat first|rw [AD (by omega)]|rw [AE (by omega)]
  rw [e];exact abA op w (by omega)
 by_cases VA:op<=166
 ·have e:form op=10:=by
   unfold form
   repeat first|rw [AD (by omega)]|rw [AE (by omega)]
  rw [e];exact abB op w (by omega)
 by_cases VC:op<=167
 ·have e:form op=1:=by
   unfold form
   repeat first|rw [AD (by omega)]|rw [AE (by omega)]
  rw [e];exact abC op w (by omega)
 by_cases VE:op<=171
 ·have e:form op=10:=by
   unfold form
   repeat first|rw [AD (by omega)]|rw [AE (by omega)]
  rw [e];exact abD op w (by omega)
 by_cases VG:op<=173
 ·have e:form op=1:=by
   unfold form
   repeat first|rw [AD (by omega)]|rw [AE (by omega)]
  rw [e];exact abE op w (by omega)
 by_cases VJ:op<=191
 ·have e:form op=10:=by
   unfold form
   repeat first|rw [AD (by omega)]|rw [AE (by omega)]
  rw [e];exact abF op w (by omega)
 have e:form op=0:=by
  unfold form
  repeat rw [AD (by omega)]
 rw [e];exact abG op w (by omega)
end Go.Proofs.YtcfifbgemfladaaGreatDoor
