/- Texts that the claim needs. -/
import Derived.Test.YtpaefhceiliaiaaGreatDoorQPAk32
import Derived.Test.YtpaefhceiliaiaaGreatDoorQPAk30
import Derived.Shelf.Lay
import Derived.Shelf.Strings.Count
import Derived.Shelf.Strings.Search3
import Derived.Shelf.Strings.Builder1
import Derived.Shelf.Strings.Builder2
import Derived.Shelf.Strconv.Itoa3
import Derived.Lib.AppendIntMem
import Derived.Test.YtpaefhceiliaiaaGreatDoorQPAk2
import Derived.Test.YtpaefhceiliaiaaGreatDoorQPAk3
namespace Go.Proofs.YtpaefhceiliaiaaGreatDoor
open Go.RowKit Lx
set_option linter.unusedVariables false
set_option maxRecDepth 100000
set_option maxHeartbeats 8000000
theorem Xp (s:ByteArray) (hi:0<s.size) (h63:s.size<4611686018427387904) (hz:s.size<=281474976710656) (w:World) (ek:WL w) (hsm:sm (bt s 0)=false) (hcp:cp (bt s 0)=false) (jV:bt s 0≠39) (nD:bt s 0≠126) (lf:dg (bt s 0)=false):Calls Tryz.prog 57 #[.string s] w fun e w'=>e=.returned (eP 0 (one s 0))/\Below w.heap.size w w':=by
 have hx:=fun (w:World)=>jo s hi w (P:=Tryz.prog) 9 Tryz.underlying9;have hc0:=uT s 0;have ib:=fun (u:World)=>ae (fT (bt s 0) u);have ic:=fun (u:World)=>ae (uW (bt s 0) u);have jM:=fun (u:World)=>ae (xz (bt s 0) u);have hcv:IntKind.i32.wrap (bt s 0)=bt s 0:=by rw [IntKind.wrap_i32];omega
 have sW:wrap32 (bt s 0)=bt s 0:=by unfold wrap32;omega
 have uR:=sV w;have acY:(bt s 0 == 126)=false:=beq_eq_false_iff_ne.2 nD;have q39:(bt s 0 == 39)=false:=beq_eq_false_iff_ne.2 jV;simp only [lf] at ib;simp only [hsm] at ic;simp only [hcp] at jM;have hone:=Xq s hi hsm hcp jV nD lf;obtain ⟨R,hR⟩:∃R,R=fst s signs:=⟨_,rfl⟩;rw [<- hR] at hone;have st0:Hid (fst s (signs.drop 0)=R):=ae hR.symm;obtain ⟨KS,qX⟩:∃KS:List Value,KS=signs.map Value.string:=⟨_,rfl⟩;have D5:Hid (∀k y,signs[k]?=some y->KS[k]?=some (Value.string y)):=ae (fun k y h=>by rw [qX,List.getElem?_map,h];rfl);have Bm:KS.length=14:=by rw [qX,List.length_map,Iv]
 have nE:Hid ((Tryz.prog.info? 135).map (·.size)=some KS.length):=ae (by rw [Bm];exact Xr);have Bn:Hid ((wA w).rangeAt 2 0 KS):=ae (by rw [qX];exact (ek.on (uQ w)).signs);have qY:Hid ((w.alloc (.cells #[.int .i64 0,.string ⟨#[]⟩,.int .i64 0,.int .i64 0] 47)).rangeAt 2 0 KS):=Bn;have D6:=fun (y:ByteArray) (u:World)=>ae (Xt s y u);rw [hone];have Bo:Hid (R≠0->eP 0 (if R=0 then .error 110 else .ok (6,s.extract 0 R,0,R))=.tuple #[.agg #[.int .i64 6,.string (s.extract 0 R),.int .i64 0,.int .i64 0],.int .i64 (R:Nat),.int .i64 0]):=ae fun h=>by rw [if_neg h];rfl
 have Bp:Hid (R=0->eP 0 (if R=0 then .error 110 else .ok (6,s.extract 0 R,0,R))=.tuple #[.agg #[.int .i64 0,.string ⟨#[]⟩,.int .i64 0,.int .i64 0],.int .i64 0,.int .i64 110]):=ae fun h=>by rw [if_pos h];rfl
 generalize eP 0 (if R=0 then .error 110 else .ok (6,s.extract 0 R,0,R))=OUT at Bo Bp ⊢;clear qX Bm ek hR hone jV nD hc0;generalize bt s 0=c at *;go_enter Tryz.func57,Tryz.ntmps57;go_wp2_with fail
 go_step3
 go_wp2_with fail
 go_step3
 go_wp2_with fail;refine Calls.mono (show Calls _ _ _ _ _ from (ib _).out) ?_;rintro e u ⟨rfl,rfl⟩;go_wp2_with fail;refine Calls.mono (show Calls _ _ _ _ _ from (ic _).out) ?_;rintro e u ⟨rfl,rfl⟩;go_wp2_with fail;refine Calls.mono (show Calls _ _ _ _ _ from (jM _).out) ?_;rintro e u ⟨rfl,rfl⟩;go_wp2_with (refine wpList_load_mid rfl 135 (.global 2) rfl 2 0 rfl KS _ qY.out Tryz.underlying135 rfl nE.out ?_)
 go_loop [5,7,17] (fun k0 l0 a=>k0=.int .i64 0/\l0=.int .i64 0/\∃k:Nat,a=.int .i64 k/\k<=14/\Hid (fst s (signs.drop k)=R)) (fun _ _ a=>match a with | .int _ k=>14-k.toNat|_=>0)
 case atStart=>exact ⟨rfl,rfl,0,rfl,by omega,st0⟩
 case round =>
  obtain ⟨rfl,rfl,k,rfl,hk,hRk⟩:=hrel;clear st0;by_cases hp:k<14
  ·obtain ⟨q3,hw1⟩:=aI k hp;obtain ⟨y,hy⟩:∃y,signs[k]?=some y:=⟨_,List.getElem?_eq_getElem (by rw [Iv];exact hp)⟩;have hidx:=fun (u:World)=>Xu KS k y (D5.out k y hy) hp u;have hs:=Xv s signs k y hy;rw [hRk.out] at hs;have hys:=Xw y (List.mem_of_getElem? hy);have HP:=fun (u:World)=>D6 y u;cases h:pfx s y with
   | true =>
    rw [h,if_pos rfl] at hs;have Oq:=Xx h;simp only [h] at HP;obtain ⟨yO,hyR,q1,Iw,hRs,acZ⟩:=aH R y.size s.size hs hys Oq;have HO:=ae (Bo.out yO);clear Bo Bp D6 yO;have og:=fun (u:World)=>ae (D7 (s.extract 0 R) u (Nat.le_trans (D8 s 0 R) hz));obtain ⟨x,hx1⟩:∃x,x=s.extract 0 R:=⟨_,rfl⟩;have hsl:s.extract 0 R=x:=hx1.symm;simp only [<- hx1] at og HO;clear hs hy h hRk hys Oq hx1;go_wp2_with fail;refine Calls.mono (show Calls _ _ _ _ _ from (HP _).out) ?_;rintro e u ⟨rfl,rfl⟩;go_wp2_with fail;refine (og _).out.mono ?_;rintro e uc ⟨rfl,hbc⟩;have A9:=(An.start w).on hbc;clear hbc;obtain ⟨W2,aX,hth,z5,z6,z7,z8,hbl⟩:=(A9).put (.int .i64 6) (.string x) (.int .i64 0) (.int .i64 0);have HW2:=ae aX;have ay:=ae hth;have bW:=ae hbl;clear aX hth hbl;clear A9;go_wp2_with (refine wpList_store_mid rfl 47 (.tmp 2) (.tmp 88) rfl w.heap.size 0 #[.int .i64 6,.string x,.int .i64 0,.int .i64 0] rfl rfl ay.out eQ (by simp [Value.oneCell']) ?_;rw [HW2.out])
    first|(show Exit.noGoto (bodyPost _ _ _) _ _ _;rw [Exit.noGoto_ret])|skip
    refine bodyPost_ret (v:=.tuple #[.agg #[.int .i64 6,.string x,.int .i64 0,.int .i64 0],.int .i64 (R:Nat),.int .i64 0]) (by simp [results,Tryz.results57,go_sem,z5,z6,z7,z8]) rfl ⟨congrArg _ HO.out.symm,bW.out⟩
   | false =>
    rw [h,if_neg (by decide)] at hs;simp only [h] at HP;have HS:=ae hs;clear hs hy h hRk Bo Bp D6 hys;go_wp2_with fail;refine Calls.mono (show Calls _ _ _ _ _ from (HP _).out) ?_;rintro e u ⟨rfl,rfl⟩;go_wp2
    go_round
    case rel=>exact ⟨rfl,rfl,k+1,by first|rfl|(congr 1),by omega,ae HS.out.symm⟩
    case measure=>simp;omega
  ·have q3:decide ((k:Int)<14)=false:=decide_eq_false (by omega);have hs:R=0:=by rw [<- hRk.out,List.drop_eq_nil_of_le (show signs.length<=k by rw [Iv];omega)];rfl
   have HO:=ae (Bp.out hs);clear hRk hs Bo Bp D6;go_wp2
   first|(show Exit.noGoto (bodyPost _ _ _) _ _ _;rw [Exit.noGoto_ret])|skip
   refine bodyPost_ret (v:=.tuple #[.agg #[.int .i64 0,.string ⟨#[]⟩,.int .i64 0,.int .i64 0],.int .i64 0,.int .i64 110]) (by simp [results,Tryz.results57,go_sem]) rfl ⟨congrArg _ HO.out.symm,uQ w⟩
theorem Ny (s:ByteArray) (hi:0<s.size) (h63:s.size<4611686018427387904) (hz:s.size<=281474976710656) (w:World) (ek:WL w):Calls Tryz.prog 57 #[.string s] w fun e w'=>e=.returned (eP 0 (one s 0))/\Below w.heap.size w w':=by
 cases h1:sm (bt s 0) with
 | true=>exact Xy s hi h63 hz w ek h1
 | false =>
  cases h2:cp (bt s 0) with
  | true=>exact Xz s hi h63 hz w ek h2
  | false =>
   by_cases h3:bt s 0=39
   ·exact XA s hi h63 hz w ek h3
   ·by_cases h4:bt s 0=126
    ·exact XB s hi h63 hz w ek h4
    ·cases h5:dg (bt s 0) with
     | true=>exact XC s hi h63 hz w ek h5
     | false=>exact Xp s hi h63 hz w ek h1 h2 h3 h4 h5
end Go.Proofs.YtpaefhceiliaiaaGreatDoor
namespace Go.Proofs.YtpaefhceiliaiaaGreatDoor
open Go.RowKit Go.Shelf Lx
set_option linter.unusedVariables false
def Tryz.Yx:Go.Shelf.Ren:=⟨fun|138=>190|195=>200|218=>201|143=>192|219=>203|217=>211|225=>212|224=>213|267=>214|266=>223|314=>224|n=>n,fun|9=>9|3=>3|4=>4|5=>5|0=>0|46=>191|146=>221|51=>220|n=>n,fun|1=>6|n=>n⟩
theorem Tryz.Yy:Go.Proofs.Lays.n138 Tryz.prog Tryz.Yx:={
 mixed:=by kernel_rfl
 f138:=Tryz.func190.trans (congrArg some (by kernel_rfl))
 f143:=Tryz.func192.trans (congrArg some (by kernel_rfl))
 f195:=Tryz.func200.trans (congrArg some (by kernel_rfl))
 f217:=Tryz.func211.trans (congrArg some (by kernel_rfl))
 f218:=Tryz.func201.trans (congrArg some (by kernel_rfl))
 f219:=Tryz.func203.trans (congrArg some (by kernel_rfl))
 f224:=Tryz.func213.trans (congrArg some (by kernel_rfl))
 f225:=Tryz.func212.trans (congrArg some (by kernel_rfl))
 f266:=Tryz.func223.trans (congrArg some (by kernel_rfl))
 f267:=Tryz.func214.trans (congrArg some (by kernel_rfl))
 f314:=Tryz.func224.trans (congrArg some (by kernel_rfl))
 t0:=Tryz.underlying0
 a0:=Tryz.isAgg0
 z0:=Tryz.sizeOf0
 v0:=Tryz.zeroValue0
 t3:=Tryz.underlying3
 a3:=Tryz.isAgg3
 z3:=Tryz.sizeOf3
 v3:=Tryz.zeroValue3
 t4:=Tryz.underlying4
 a4:=Tryz.isAgg4
 z4:=Tryz.sizeOf4
 v4:=Tryz.zeroValue4
 t5:=Tryz.underlying5
 a5:=Tryz.isAgg5
 z5:=Tryz.sizeOf5
 v5:=Tryz.zeroValue5
 t9:=Tryz.underlying9
 a9:=Tryz.isAgg9
 z9:=Tryz.sizeOf9
 v9:=Tryz.zeroValue9
 t46:=Tryz.underlying191
 a46:=Tryz.isAgg191
 z46:=Tryz.sizeOf191
 v46:=Tryz.zeroValue191
 t51:=Tryz.underlying220
 a51:=Tryz.isAgg220
 z51:=Tryz.sizeOf220
 v51:=Tryz.zeroValue220
 t146:=Tryz.underlying221
 a146:=Tryz.isAgg221
 z146:=Tryz.sizeOf221
 v146:=Tryz.zeroValue221
 g1:=by kernel_rfl }
def Tryz.Yz:Go.Shelf.Ren:=⟨fun|143=>192|219=>203|217=>211|225=>212|224=>213|267=>214|266=>223|314=>224|n=>n,fun|9=>9|3=>3|4=>4|5=>5|46=>191|146=>221|51=>220|n=>n,fun|1=>6|n=>n⟩
theorem Tryz.YA:Go.Proofs.Lays.n143 Tryz.prog Tryz.Yz:={
 mixed:=by kernel_rfl
 f143:=Tryz.func192.trans (congrArg some (by kernel_rfl))
 f217:=Tryz.func211.trans (congrArg some (by kernel_rfl))
 f219:=Tryz.func203.trans (congrArg some (by kernel_rfl))
 f224:=Tryz.func213.trans (congrArg some (by kernel_rfl))
 f225:=Tryz.func212.trans (congrArg some (by kernel_rfl))
 f266:=Tryz.func223.trans (congrArg some (by kernel_rfl))
 f267:=Tryz.func214.trans (congrArg some (by kernel_rfl))
 f314:=Tryz.func224.trans (congrArg some (by kernel_rfl))
 t3:=Tryz.underlying3
 a3:=Tryz.isAgg3
 z3:=Tryz.sizeOf3
 v3:=Tryz.zeroValue3
 t4:=Tryz.underlying4
 a4:=Tryz.isAgg4
 z4:=Tryz.sizeOf4
 v4:=Tryz.zeroValue4
 t5:=Tryz.underlying5
 a5:=Tryz.isAgg5
 z5:=Tryz.sizeOf5
 v5:=Tryz.zeroValue5
 t9:=Tryz.underlying9
 a9:=Tryz.isAgg9
 z9:=Tryz.sizeOf9
 v9:=Tryz.zeroValue9
 t46:=Tryz.underlying191
 a46:=Tryz.isAgg191
 z46:=Tryz.sizeOf191
 v46:=Tryz.zeroValue191
 t51:=Tryz.underlying220
 a51:=Tryz.isAgg220
 z51:=Tryz.sizeOf220
 v51:=Tryz.zeroValue220
 t146:=Tryz.underlying221
 a146:=Tryz.isAgg221
 z146:=Tryz.sizeOf221
 v146:=Tryz.zeroValue221
 g1:=by kernel_rfl }
def Tryz.Pu:Go.Shelf.Ren:=⟨fun|165=>191|240=>183|241=>202|276=>195|277=>210|n=>n,fun|70=>168|3=>3|0=>0|4=>4|9=>9|20=>20|72=>170|37=>90|164=>198|5=>5|n=>n,fun|n=>n⟩
theorem Tryz.YB:Go.Proofs.Lays.n165 Tryz.prog Tryz.Pu:={
 mixed:=by kernel_rfl
 f165:=Tryz.func191.trans (congrArg some (by kernel_rfl))
 f240:=Tryz.func183.trans (congrArg some (by kernel_rfl))
 f241:=Tryz.func202.trans (congrArg some (by kernel_rfl))
 f276:=Tryz.func195.trans (congrArg some (by kernel_rfl))
 f277:=Tryz.func210.trans (congrArg some (by kernel_rfl))
 t0:=Tryz.underlying0
 a0:=Tryz.isAgg0
 z0:=Tryz.sizeOf0
 v0:=Tryz.zeroValue0
 t3:=Tryz.underlying3
 a3:=Tryz.isAgg3
 z3:=Tryz.sizeOf3
 v3:=Tryz.zeroValue3
 t4:=Tryz.underlying4
 a4:=Tryz.isAgg4
 z4:=Tryz.sizeOf4
 v4:=Tryz.zeroValue4
 t9:=Tryz.underlying9
 a9:=Tryz.isAgg9
 z9:=Tryz.sizeOf9
 v9:=Tryz.zeroValue9
 t20:=Tryz.underlying20
 a20:=Tryz.isAgg20
 z20:=Tryz.sizeOf20
 v20:=Tryz.zeroValue20
 t37:=Tryz.underlying90
 a37:=Tryz.isAgg90
 z37:=Tryz.sizeOf90
 v37:=Tryz.zeroValue90
 t70:=Tryz.underlying168
 a70:=Tryz.isAgg168
 z70:=Tryz.sizeOf168
 v70:=Tryz.zeroValue168
 t72:=Tryz.underlying170
 a72:=Tryz.isAgg170
 z72:=Tryz.sizeOf170
 v72:=Tryz.zeroValue170
 t164:=Tryz.underlying198
 a164:=Tryz.isAgg198
 z164:=Tryz.sizeOf198
 v164:=Tryz.zeroValue198 }
def Tryz.Pv:Go.Shelf.Ren:=⟨fun|166=>169|240=>183|276=>195|n=>n,fun|0=>0|3=>3|4=>4|5=>5|9=>9|20=>20|37=>90|70=>168|72=>170|75=>174|80=>179|164=>198|n=>n,fun|n=>n⟩
theorem Tryz.YC:Go.Proofs.Lays.n166 Tryz.prog Tryz.Pv:={
 mixed:=by kernel_rfl
 f166:=Tryz.func169.trans (congrArg some (by kernel_rfl))
 f240:=Tryz.func183.trans (congrArg some (by kernel_rfl))
 f276:=Tryz.func195.trans (congrArg some (by kernel_rfl))
 t0:=Tryz.underlying0
 a0:=Tryz.isAgg0
 z0:=Tryz.sizeOf0
 v0:=Tryz.zeroValue0
 t3:=Tryz.underlying3
 a3:=Tryz.isAgg3
 z3:=Tryz.sizeOf3
 v3:=Tryz.zeroValue3
 t4:=Tryz.underlying4
 a4:=Tryz.isAgg4
 z4:=Tryz.sizeOf4
 v4:=Tryz.zeroValue4
 t9:=Tryz.underlying9
 a9:=Tryz.isAgg9
 z9:=Tryz.sizeOf9
 v9:=Tryz.zeroValue9
 t20:=Tryz.underlying20
 a20:=Tryz.isAgg20
 z20:=Tryz.sizeOf20
 v20:=Tryz.zeroValue20
 t37:=Tryz.underlying90
 a37:=Tryz.isAgg90
 z37:=Tryz.sizeOf90
 v37:=Tryz.zeroValue90
 t70:=Tryz.underlying168
 a70:=Tryz.isAgg168
 z70:=Tryz.sizeOf168
 v70:=Tryz.zeroValue168
 t72:=Tryz.underlying170
 a72:=Tryz.isAgg170
 z72:=Tryz.sizeOf170
 v72:=Tryz.zeroValue170
 t75:=Tryz.underlying174
 a75:=Tryz.isAgg174
 z75:=Tryz.sizeOf174
 v75:=Tryz.zeroValue174
 t164:=Tryz.underlying198
 a164:=Tryz.isAgg198
 z164:=Tryz.sizeOf198
 v164:=Tryz.zeroValue198 }
def Tryz.Pw:Go.Shelf.Ren:=⟨fun|167=>168|240=>183|276=>195|n=>n,fun|0=>0|4=>4|5=>5|9=>9|20=>20|37=>90|70=>168|72=>170|75=>174|80=>179|164=>198|n=>n,fun|n=>n⟩
theorem Tryz.YD:Go.Proofs.Lays.n167 Tryz.prog Tryz.Pw:={
 mixed:=by kernel_rfl
 f167:=Tryz.func168.trans (congrArg some (by kernel_rfl))
 f240:=Tryz.func183.trans (congrArg some (by kernel_rfl))
 f276:=Tryz.func195.trans (congrArg some (by kernel_rfl))
 t0:=Tryz.underlying0
 a0:=Tryz.isAgg0
 z0:=Tryz.sizeOf0
 v0:=Tryz.zeroValue0
 t4:=Tryz.underlying4
 a4:=Tryz.isAgg4
 z4:=Tryz.sizeOf4
 v4:=Tryz.zeroValue4
 t5:=Tryz.underlying5
 a5:=Tryz.isAgg5
 z5:=Tryz.sizeOf5
 v5:=Tryz.zeroValue5
 t9:=Tryz.underlying9
 a9:=Tryz.isAgg9
 z9:=Tryz.sizeOf9
 v9:=Tryz.zeroValue9
 t20:=Tryz.underlying20
 a20:=Tryz.isAgg20
 z20:=Tryz.sizeOf20
 v20:=Tryz.zeroValue20
 t37:=Tryz.underlying90
 a37:=Tryz.isAgg90
 z37:=Tryz.sizeOf90
 v37:=Tryz.zeroValue90
 t70:=Tryz.underlying168
 a70:=Tryz.isAgg168
 z70:=Tryz.sizeOf168
 v70:=Tryz.zeroValue168
 t72:=Tryz.underlying170
 a72:=Tryz.isAgg170
 z72:=Tryz.sizeOf170
 v72:=Tryz.zeroValue170
 t75:=Tryz.underlying174
 a75:=Tryz.isAgg174
 z75:=Tryz.sizeOf174
 v75:=Tryz.zeroValue174
 t164:=Tryz.underlying198
 a164:=Tryz.isAgg198
 z164:=Tryz.sizeOf198
 v164:=Tryz.zeroValue198 }
def Tryz.Px:Go.Shelf.Ren:=⟨fun|169=>171|n=>n,fun|70=>168|9=>9|0=>0|72=>170|37=>90|127=>182|3=>3|5=>5|n=>n,fun|n=>n⟩
theorem Tryz.YE:Go.Proofs.Lays.n169 Tryz.prog Tryz.Px:={
 mixed:=by kernel_rfl
 f169:=Tryz.func171.trans (congrArg some (by kernel_rfl))
 t0:=Tryz.underlying0
 a0:=Tryz.isAgg0
 z0:=Tryz.sizeOf0
 v0:=Tryz.zeroValue0
 t3:=Tryz.underlying3
 a3:=Tryz.isAgg3
 z3:=Tryz.sizeOf3
 v3:=Tryz.zeroValue3
 t9:=Tryz.underlying9
 a9:=Tryz.isAgg9
 z9:=Tryz.sizeOf9
 v9:=Tryz.zeroValue9
 t37:=Tryz.underlying90
 a37:=Tryz.isAgg90
 z37:=Tryz.sizeOf90
 v37:=Tryz.zeroValue90
 t70:=Tryz.underlying168
 a70:=Tryz.isAgg168
 z70:=Tryz.sizeOf168
 v70:=Tryz.zeroValue168
 t72:=Tryz.underlying170
 a72:=Tryz.isAgg170
 z72:=Tryz.sizeOf170
 v72:=Tryz.zeroValue170
 t127:=Tryz.underlying182
 a127:=Tryz.isAgg182
 z127:=Tryz.sizeOf182
 v127:=Tryz.zeroValue182 }
def Tryz.YF:Go.Shelf.Ren:=⟨fun|170=>170|n=>n,fun|70=>168|3=>3|0=>0|72=>170|37=>90|5=>5|n=>n,fun|n=>n⟩
theorem Tryz.YG:Go.Proofs.Lays.n170 Tryz.prog Tryz.YF:={
 mixed:=by kernel_rfl
 f170:=Tryz.func170.trans (congrArg some (by kernel_rfl))
 t0:=Tryz.underlying0
 a0:=Tryz.isAgg0
 z0:=Tryz.sizeOf0
 v0:=Tryz.zeroValue0
 t3:=Tryz.underlying3
 a3:=Tryz.isAgg3
 z3:=Tryz.sizeOf3
 v3:=Tryz.zeroValue3
 t37:=Tryz.underlying90
 a37:=Tryz.isAgg90
 z37:=Tryz.sizeOf90
 v37:=Tryz.zeroValue90
 t70:=Tryz.underlying168
 a70:=Tryz.isAgg168
 z70:=Tryz.sizeOf168
 v70:=Tryz.zeroValue168
 t72:=Tryz.underlying170
 a72:=Tryz.isAgg170
 z72:=Tryz.sizeOf170
 v72:=Tryz.zeroValue170 }
def Tryz.YH:Go.Shelf.Ren:=⟨fun|171=>182|243=>194|246=>205|283=>215|284=>216|285=>217|286=>218|129=>226|317=>225|318=>227|319=>228|320=>229|337=>238|338=>239|n=>n,fun|3=>3|9=>9|2=>2|4=>4|171=>213|0=>0|53=>214|37=>90|5=>5|173=>217|212=>224|51=>220|20=>20|213=>225|46=>191|232=>231|233=>232|n=>n,fun|17=>9|18=>10|19=>11|n=>n⟩
theorem Tryz.YI:Go.Proofs.LaysM.n171 Tryz.prog Tryz.YH:={
 mixed:=by kernel_rfl
 f129:=Tryz.func226.trans (congrArg some (by kernel_rfl))
 f171:=Tryz.func182.trans (congrArg some (by kernel_rfl))
 f243:=Tryz.func194.trans (congrArg some (by kernel_rfl))
 f246:=Tryz.func205.trans (congrArg some (by kernel_rfl))
 f283:=Tryz.func215.trans (congrArg some (by kernel_rfl))
 f284:=Tryz.func216.trans (congrArg some (by kernel_rfl))
 f285:=Tryz.func217.trans (congrArg some (by kernel_rfl))
 f286:=Tryz.func218.trans (congrArg some (by kernel_rfl))
 f317:=Tryz.func225.trans (congrArg some (by kernel_rfl))
 f318:=Tryz.func227.trans (congrArg some (by kernel_rfl))
 f319:=Tryz.func228.trans (congrArg some (by kernel_rfl))
 f320:=Tryz.func229.trans (congrArg some (by kernel_rfl))
 f337:=Tryz.func238.trans (congrArg some (by kernel_rfl))
 f338:=Tryz.func239.trans (congrArg some (by kernel_rfl))
 t0:=Tryz.underlying0
 a0:=Tryz.isAgg0
 z0:=Tryz.sizeOf0
 v0:=Tryz.zeroValue0
 t2:=Tryz.underlying2
 a2:=Tryz.isAgg2
 z2:=Tryz.sizeOf2
 v2:=Tryz.zeroValue2
 t3:=Tryz.underlying3
 a3:=Tryz.isAgg3
 z3:=Tryz.sizeOf3
 v3:=Tryz.zeroValue3
 t4:=Tryz.underlying4
 a4:=Tryz.isAgg4
 z4:=Tryz.sizeOf4
 v4:=Tryz.zeroValue4
 t5:=Tryz.underlying5
 a5:=Tryz.isAgg5
 z5:=Tryz.sizeOf5
 v5:=Tryz.zeroValue5
 t9:=Tryz.underlying9
 a9:=Tryz.isAgg9
 z9:=Tryz.sizeOf9
 v9:=Tryz.zeroValue9
 t20:=Tryz.underlying20
 a20:=Tryz.isAgg20
 z20:=Tryz.sizeOf20
 v20:=Tryz.zeroValue20
 t37:=Tryz.underlying90
 a37:=Tryz.isAgg90
 z37:=Tryz.sizeOf90
 v37:=Tryz.zeroValue90
 t46:=Tryz.underlying191
 a46:=Tryz.isAgg191
 z46:=Tryz.sizeOf191
 v46:=Tryz.zeroValue191
 t51:=Tryz.underlying220
 a51:=Tryz.isAgg220
 z51:=Tryz.sizeOf220
 v51:=Tryz.zeroValue220
 t53:=Tryz.underlying214
 a53:=Tryz.isAgg214
 z53:=Tryz.sizeOf214
 v53:=Tryz.zeroValue214
 t171:=Tryz.underlying213
 a171:=Tryz.isAgg213
 z171:=Tryz.sizeOf213
 v171:=Tryz.zeroValue213
 t173:=Tryz.underlying217
 a173:=Tryz.isAgg217
 z173:=Tryz.sizeOf217
 v173:=Tryz.zeroValue217
 t212:=Tryz.underlying224
 a212:=Tryz.isAgg224
 z212:=Tryz.sizeOf224
 v212:=Tryz.zeroValue224
 t213:=Tryz.underlying225
 a213:=Tryz.isAgg225
 z213:=Tryz.sizeOf225
 t232:=Tryz.underlying231
 a232:=Tryz.isAgg231
 z232:=Tryz.sizeOf231
 v232:=Tryz.zeroValue231
 t233:=Tryz.underlying232
 a233:=Tryz.isAgg232
 z233:=Tryz.sizeOf232
 v233:=Tryz.zeroValue232
 g17:=by kernel_rfl
 g18:=by kernel_rfl
 g19:=by kernel_rfl
 i0:=by kernel_rfl
 i2:=by kernel_rfl
 i3:=by kernel_rfl
 i4:=by kernel_rfl
 i5:=by kernel_rfl
 i9:=by kernel_rfl
 i20:=by kernel_rfl
 i37:=by kernel_rfl
 i46:=by kernel_rfl
 i51:=by kernel_rfl
 i53:=by kernel_rfl
 i171:=by kernel_rfl
 i173:=by kernel_rfl
 i212:=by kernel_rfl
 i232:=by kernel_rfl
 i233:=by kernel_rfl
 m17:=by kernel_rfl
 m18:=by kernel_rfl
 m19:=by kernel_rfl }
theorem Tryz.YJ:Builder.Extra Tryz.prog Tryz.Pu:={ sizeBuilder:=by kernel_rfl,liesBuilder:=by kernel_rfl,t5:=Tryz.underlying5,a5:=Tryz.isAgg5,z5:=Tryz.sizeOf5,v5:=Tryz.zeroValue5,infoByte:=by kernel_rfl,cellsByte:=by kernel_rfl,sizeByte:=by kernel_rfl,neB5:=by decide }
theorem Tryz.YK:Builder.Extra Tryz.prog Tryz.Pv:={ sizeBuilder:=by kernel_rfl,liesBuilder:=by kernel_rfl,t5:=Tryz.underlying5,a5:=Tryz.isAgg5,z5:=Tryz.sizeOf5,v5:=Tryz.zeroValue5,infoByte:=by kernel_rfl,cellsByte:=by kernel_rfl,sizeByte:=by kernel_rfl,neB5:=by decide }
theorem Tryz.YL:Builder.Extra Tryz.prog Tryz.Pw:={ sizeBuilder:=by kernel_rfl,liesBuilder:=by kernel_rfl,t5:=Tryz.underlying5,a5:=Tryz.isAgg5,z5:=Tryz.sizeOf5,v5:=Tryz.zeroValue5,infoByte:=by kernel_rfl,cellsByte:=by kernel_rfl,sizeByte:=by kernel_rfl,neB5:=by decide }
theorem Tryz.YM:Builder.Extra Tryz.prog Tryz.Px:={ sizeBuilder:=by kernel_rfl,liesBuilder:=by kernel_rfl,t5:=Tryz.underlying5,a5:=Tryz.isAgg5,z5:=Tryz.sizeOf5,v5:=Tryz.zeroValue5,infoByte:=by kernel_rfl,cellsByte:=by kernel_rfl,sizeByte:=by kernel_rfl,neB5:=by decide }
abbrev lL (B b:Nat) (l:List UInt8) (w:World):Prop:=Lib.IsBuilder 170 5 B b (Lib.byteCells l) w
theorem YN (B b n:Nat) (w:World) (hB:B<=b) (hbk:w.heap[b]?=some (.cells #[.pointer none,.slice none 0 0] 170 (0,0))) (hBw:B<=w.heap.size) (hn:n<=281474976710656) :
  Calls Tryz.prog 191 #[.pointer (some ⟨b,0,none⟩),.int .i64 n] w fun e w'=>e=.returned (.tuple #[])/\lL B b [] w'/\Below B w w' :=
 (Any.Builder_Grow_fresh Tryz.YB Tryz.YJ B b n w hB hbk hBw hn).mono fun e w' ⟨h1,h2,h3⟩=>⟨h1,Or.inr h2,h3⟩
theorem AQ (B b:Nat) (l:List UInt8) (s:ByteArray) (w:World) (h:lL B b l w) (hlen:l.length+s.size<=140737488355328) (hBw:B<=w.heap.size) :
  Calls Tryz.prog 169 #[.pointer (some ⟨b,0,none⟩),.string s] w fun e w'=>e=.returned (.tuple #[.int .i64 s.size,.nilIface])/\lL B b (l++s.data.toList) w'/\Below B w w' :=
 (Any.Builder_WriteString Tryz.YC Tryz.YK B b _ s w h (by rw [Lib.byteCells_length];exact hlen) hBw).mono fun e w' ⟨h1,h2,h3⟩=>⟨h1,Or.inr (by rw [Lib.byteCells_append,<- Lib.strCells_eq];exact h2),h3⟩
theorem VY (B b:Nat) (l:List UInt8) (c:UInt8) (w:World) (h:lL B b l w) (hlen:l.length+1<=140737488355328) (hBw:B<=w.heap.size) :
  Calls Tryz.prog 168 #[.pointer (some ⟨b,0,none⟩),.int .u8 (c.toNat:Int)] w fun e w'=>e=.returned .nilIface/\lL B b (l++[c]) w'/\Below B w w' :=
 (Any.Builder_WriteByte Tryz.YD Tryz.YL B b _ (c.toNat:Int) w h (by rw [Lib.byteCells_length];exact hlen) hBw).mono fun e w' ⟨h1,h2,h3⟩=>⟨h1,Or.inr (by rw [Lib.byteCells_append];exact h2),h3⟩
theorem Nr (B b:Nat) (l:List UInt8) (w:World) (h:lL B b l w) (hBw:B<=w.heap.size) :
  Calls Tryz.prog 171 #[.pointer (some ⟨b,0,none⟩)] w fun e w'=>e=.returned (.string ⟨l.toArray⟩)/\Below B w w' :=
 Any.Builder_String_any Tryz.YE Tryz.YM B b l w h hBw
theorem sLen (B b:Nat) (l:List UInt8) (w:World) (h:lL B b l w) :
  Calls Tryz.prog 170 #[.pointer (some ⟨b,0,none⟩)] w fun e w'=>e=.returned (.int .i64 (l.length:Int))/\w'=w :=
 (Any.Builder_Len Tryz.YG B b _ w h).mono fun e w' ⟨h1,h2⟩=>⟨by rw [h1,Lib.byteCells_length],h2⟩
theorem Py (s:ByteArray) (c:UInt8) (w:World):Calls Tryz.prog 190 #[.string s,.string ⟨#[c]⟩] w fun e w'=>e=.returned (.int .i64 (Lib.countByte s.data.toList c))/\w'=w :=
 Any.strings_Count_one Tryz.Yy s c w
theorem YO (s:ByteArray) (c:UInt8) (w:World):Calls Tryz.prog 192 #[.string s,.string ⟨#[c]⟩] w fun e w'=>e=.returned (.int .i64 (Lib.indexByte s.data.toList c))/\w'=w :=
 Any.strings_Index_one Tryz.YA s c w
namespace Lx
def TP (w : World) : Prop := Lib.TabIs Tryz.prog w "internal/strconv.uint64pow10" .u64 Lib.pow10Tab
end Lx
theorem Wl (n:Int) (h0:-9223372036854775808<=n) (h1:n<=9223372036854775807) (w:World) (hT:TP w):Calls Tryz.prog 182 #[.int .i64 n] w fun e w'=>e=.returned (.string ⟨(Lib.itoa n).toArray⟩)/\Below w.heap.size w w' :=
 (Any.strconv_Itoa Tryz.YI n h0 h1 w hT).mono fun e w' ⟨a,k,os,b⟩=>⟨a,by rw [b];exact Lib.below_grow _ w (Nat.le_refl _) k os⟩
end Go.Proofs.YtpaefhceiliaiaaGreatDoor
namespace Go.Proofs.YtpaefhceiliaiaaGreatDoor
open Go.RowKit Lx
set_option linter.unusedVariables false
set_option maxRecDepth 100000
set_option maxHeartbeats 8000000
namespace Lx
theorem RB:∀(m u:Nat),u<=m->∀b ∈ Lib.decDigits u,b≠45
 | m,u,hm,b,hb=>by
  by_cases h:u<10
  ·rw [sx h] at hb;simp only [List.mem_singleton] at hb;intro e;have h1:=xa h;rw [<- hb,e] at h1
   have:((45:UInt8).toNat:Int)=45:=rfl
   omega
  ·rw [wZ h] at hb;rcases List.mem_append.1 hb with hb|hb
   ·match m,hm with
    | 0,hm=>omega
    | m+1,hm=>exact RB m (u / 10) (by omega) b hb
   ·simp only [List.mem_singleton] at hb;intro e;have h1:=xa (show u%10<10 by omega);rw [<- hb,e] at h1
    have:((45:UInt8).toNat:Int)=45:=rfl
    omega
theorem RE (u:Nat):Lib.countByte (Lib.decDigits u) 45=0:=by
 unfold Lib.countByte;rw [List.count_eq_zero];exact fun h=>RB u u (Nat.le_refl _) 45 h rfl
theorem Hb (u:Nat) (h:u<=9223372036854775808):(Lib.decDigits u).length<=20:=Az 19 u (by omega)
theorem aaR (b:UInt8) (l:List UInt8):((⟨(b :: l).toArray⟩:ByteArray).extract 1 (⟨(b :: l).toArray⟩:ByteArray).size).data.toList=l:=by
 rw [uK];simp [ByteArray.data_extract]
theorem Ha {n:Int} (h:n<0):wX n=126 :: Lib.decDigits n.natAbs:=by unfold wX;rw [if_pos h]
theorem itoa_neg {n:Int} (h:n<0):Lib.itoa n=45 :: Lib.decDigits n.natAbs:=by unfold Lib.itoa;rw [if_pos h]
theorem Hd {n:Int} (h:¬ n<0):wX n=Lib.decDigits n.toNat:=by unfold wX;rw [if_neg h]
theorem aaS {n:Int} (h:¬ n<0):Lib.itoa n=Lib.decDigits n.toNat:=by unfold Lib.itoa;rw [if_neg h]
end Lx
theorem aaT (s:ByteArray) (hc:Lib.countByte s.data.toList 45=0) (w:World):Calls Tryz.prog 181 #[.string s,.string ⟨#[45]⟩,.string ⟨#[126]⟩,.int .i64 1] w fun e w'=>e=.returned (.string s)/\Below w.heap.size w w':=by
 have H:=ae (Py s 45 w);rw [hc] at H;have HB:=ae (Below.refl w.heap.size w);clear hc;go_enter Tryz.func181,Tryz.ntmps181;go_wp2_with fail;refine H.out.mono ?_;rintro e u ⟨rfl,rfl⟩;go_wp2;go_ret;exact ⟨rfl,HB.out⟩
theorem aaU (s X:ByteArray) (hz1:1<=s.size) (hz:s.size<=30) (hc:Lib.countByte s.data.toList 45=1) (hi:Lib.indexByte s.data.toList 45=0) (hX:X=⟨(126 :: (s.extract 1 s.size).data.toList).toArray⟩) (w:World):Calls Tryz.prog 181 #[.string s,.string ⟨#[45]⟩,.string ⟨#[126]⟩,.int .i64 1] w fun e w'=>e=.returned (.string X)/\Below w.heap.size w w':=by
 have H:=ae (Py s 45 w);rw [hc] at H;have HI:=fun (u:World)=>ae (YO s 45 u);rw [hi] at HI;have hex:s.extract 0 s.size=s:=by simp
 have hG:=ae (YN w.heap.size w.heap.size s.size _ (Nat.le_refl _) (heap_alloc_new w (.cells #[.pointer none,.slice none 0 0] 170)) (by simp) (by omega));have Cc:=ae ((Below.refl w.heap.size w).alloc (Nat.le_refl _) (.cells #[.pointer none,.slice none 0 0] 170));obtain ⟨E1,RF⟩:∃E,s.extract 1 s.size=E:=⟨_,rfl⟩;have RG:E1.size<=30:=by rw [<- RF,ByteArray.size_extract];omega
 rw [RF] at hX;have HZ:Hid (1<=s.size/\s.size<=30/\E1.size<=30):=ae ⟨hz1,hz,RG⟩;have HX:=ae hX;have n1:(1:Int)<=(s.size:Int):=by omega
 have hws:wrap64 (s.size:Int)=(s.size:Int):=by unfold wrap64;omega
 clear hX RG hc hi hz hz1;go_enter Tryz.func181,Tryz.ntmps181;go_wp2_with fail;refine H.out.mono ?_;rintro e u ⟨rfl,rfl⟩;go_wp2_with fail;refine Calls.mono (show Calls _ _ _ _ _ from hG.out) ?_;rintro e u1 ⟨rfl,hb0,hb1⟩;have H1:=ae hb0;have Hb1:=ae (Cc.out.trans hb1);clear hb0 hb1 hG Cc;go_wp2_with fail;go_loopw [11,12,53] (fun st jj i wx=>∃k:Nat,k<=1/\st=.int .i64 k/\i=.int .i64 k/\Hid (lL u.heap.size u.heap.size (if k=0 then [] else [126]) wx)/\Hid (Below u.heap.size u wx)) (fun _ _ i _=>match i with | .int _ k=>1-k.toNat|_=>0)
 case atStart=>exact ⟨0,by omega,rfl,rfl,H1,Hb1⟩
 case round =>
  obtain ⟨k,hk,rfl,rfl,HB,HW⟩:=hrel;clear H1 Hb1;have hBw:u.heap.size<=wr.heap.size:=HW.out.size;rcases Nat.eq_zero_or_pos k with h0|h0
  ·subst h0;have xX:=HB.out;rw [if_pos rfl] at xX;have HW1:=ae (AQ u.heap.size u.heap.size [] ByteArray.empty wr xX (by decide) hBw);clear xX HB;go_wp2_with fail;refine Calls.mono (show Calls _ _ _ _ _ from (HI _).out) ?_;rintro e u2 ⟨rfl,rfl⟩;go_wp2_with fail;refine Calls.mono (show Calls _ _ _ _ _ from HW1.out) ?_;rintro e u3 ⟨rfl,hb3,hw3⟩;have HW3:=ae (HW.out.trans hw3);have HW2:=ae (AQ u.heap.size u.heap.size [] ⟨#[126]⟩ u3 hb3 (by decide) HW3.out.size);clear hb3 hw3 HW1;go_wp2_with fail;refine Calls.mono (show Calls _ _ _ _ _ from HW2.out) ?_;rintro e u4 ⟨rfl,hb4,hw4⟩;have dR:=ae hb4;have fQ:=ae (HW3.out.trans hw4);clear hb4 hw4 HW2 HW3;go_wp2;go_roundw
   case rel=>exact ⟨1,Nat.le_refl _,by first|rfl|simp,by first|rfl|simp,dR,fQ⟩
   case measure=>simp
  ·obtain rfl:k=1:=by omega
   have xX:=HB.out;rw [if_neg (by decide)] at xX;have HW1:=ae (AQ u.heap.size u.heap.size [126] E1 wr xX (by have:=HZ.out.2.2;simp;omega) hBw);clear xX HB hk h0;go_wp2_with fail;refine Calls.mono (show Calls _ _ _ _ _ from HW1.out) ?_;rintro e u3 ⟨rfl,hb3,hw3⟩;have HW3:=ae (HW.out.trans hw3);have HS:=ae (Nr u.heap.size u.heap.size _ u3 hb3 HW3.out.size);clear hb3 hw3 HW1;go_wp2_with fail;refine Calls.mono (show Calls _ _ _ _ _ from HS.out) ?_;rintro e u4 ⟨rfl,hw4⟩;have fQ:=ae (HW3.out.trans hw4);have hfin:(⟨([126]++E1.data.toList).toArray⟩:ByteArray)=X:=HX.out.symm;rw [hfin];clear hw4 HW3 HS hfin;go_wp2;go_ret;exact ⟨rfl,fQ.out⟩
theorem Wm (n:Int) (h0:-9223372036854775808<=n) (h1:n<=9223372036854775807) (w:World):Calls Tryz.prog 181 #[.string ⟨(Lib.itoa n).toArray⟩,.string ⟨#[45]⟩,.string ⟨#[126]⟩,.int .i64 1] w fun e w'=>e=.returned (.string (mo n))/\Below w.heap.size w w':=by
 unfold mo;by_cases h:n<0
 ·rw [itoa_neg h,Ha h];have hl:=Hb n.natAbs (by omega);refine aaU _ _ (by rw [uK];simp) (by rw [uK];simp;omega) ?_ ?_ ?_ w
  ·show Lib.countByte (45 :: Lib.decDigits n.natAbs) 45=1
   have:=RE n.natAbs
   unfold Lib.countByte at this ⊢;rw [List.count_cons_self,this]
  ·show Lib.indexByte (45 :: Lib.decDigits n.natAbs) 45=0;rfl
  ·rw [aaR]
 ·rw [aaS h,Hd h];exact aaT _ (RE n.toNat) w
namespace Lx
theorem aR {a b n:Nat} (h:a+b<=n) (hn:n<=8192):wrap64 ((a:Int)+(b:Int))=((a+b:Nat):Int)/\(a:Int)+(b:Int)=((a+b:Nat):Int):=by
 unfold wrap64;omega
theorem aV {n m:Nat} (h:m<=n) (hn:n<=8192):wrap64 (m:Int)=(m:Int):=by unfold wrap64;omega
theorem ZO {n i f g e p:Nat} (h:n<=i+f) (hg:f=g+1) (h1:e<=p) (h2:i<e):n<=p+g:=by omega
end Lx
namespace Lx
theorem Qq (s:ByteArray):∀(f i:Nat) (acc:List Tk),acc.length<=4096->(iL s f i acc).1.length<=4096
 | 0,i,acc,h=>h
 | f+1,i,acc,h=>by
  rw [iL];split
  ·split
   ·exact Nat.zero_le _
   ·split
    ·exact Nat.zero_le _
    ·exact Qq s f _ _ (by rw [List.length_append];simp;omega)
  ·exact h
theorem Qr (s:ByteArray):(lx s).1.length<=4096:=by
 unfold lx;split
 ·exact Nat.zero_le _
 ·exact Qq s _ _ _ (by simp)
end Lx
end Go.Proofs.YtpaefhceiliaiaaGreatDoor
