/- Texts that the claim needs. -/
import Derived.Test.YtpaefhceiliaiaaGreatDoorQPAk1
namespace Go.Proofs.YtpaefhceiliaiaaGreatDoor
open Go.RowKit Lx
set_option linter.unusedVariables false
set_option maxRecDepth 100000
set_option maxHeartbeats 8000000
namespace Lx
def gH:Option (Int × Nat)->Value
 | some (n,e)=>.tuple #[.agg #[.int .i64 4,.string ⟨#[]⟩,.int .i64 n,.int .i64 0],.int .i64 e,.int .i64 0]
 | none=>.tuple #[.agg #[.int .i64 0,.string ⟨#[]⟩,.int .i64 0,.int .i64 0],.int .i64 0,.int .i64 110]
theorem lC (d:ByteArray) (u:Int) (hu:u=1\/u=-1) (k:Nat) (hd:∀j,j<k->dg (bt d j)=true):-20000000000<=bE d u k 0 0/\bE d u k 0 0<=20000000000:=by
 induction k with
 | zero=>exact ⟨by show (-20000000000:Int)<=0;decide,by show (0:Int)<=20000000000;decide⟩
 | succ k ih =>
  have ih:=ih fun j hj=>hd j (by omega);have hb:=iZ (hd k (by omega));rw [mh,Nat.zero_add];generalize bE d u k 0 0=n at *;split
  ·rename_i h;unfold dh at h;rw [Bool.and_eq_true,decide_eq_true_eq,decide_eq_true_eq] at h;rcases hu with rfl|rfl<;>omega
  ·exact ih
theorem iK {P:Program} (w:World) (s:ByteArray) (pos:Nat) (h:pos<s.size) (hb:bt s pos<128) (ty:TypeId) :
  (Instr.next (.pointer (some ⟨w.heap.size+1,0,none⟩)) true ty).run P ((wA w).iter s pos)=.ok (.tuple #[.bool true,.int .i64 pos,.int .i32 (bt s pos)]) ((wA w).iter s (pos+1)):=by
 have:=I8 (P:=P) (wA w) s pos h hb ty
 rwa [show (wA w).heap.size=w.heap.size+1 by unfold wA;simp] at this
theorem oz {P:Program} (w:World) (s:ByteArray) (pos:Nat) (h:pos<s.size) (ty:TypeId) :
  (Instr.next (.pointer (some ⟨w.heap.size+1,0,none⟩)) true ty).run P ((wA w).iter s pos)=.ok (.tuple #[.bool true,.int .i64 pos,.int .i32 (Utf8.decode s pos).1]) ((wA w).iter s (pos+(Utf8.decode s pos).2)):=by
 have:=run_next_any (P:=P) (wA w) s pos ty h
 rwa [show (wA w).heap.size=w.heap.size+1 by unfold wA;simp] at this
theorem oF {P:Program} (w:World) (s:ByteArray) (pos:Nat) (h:¬ pos<s.size) (ty:TypeId) :
  (Instr.next (.pointer (some ⟨w.heap.size+1,0,none⟩)) true ty).run P ((wA w).iter s pos)=.ok (.tuple #[.bool false]) ((wA w).iter s pos):=by
 have:=run_next_end (P:=P) (wA w) s pos ty h
 rwa [show (wA w).heap.size=w.heap.size+1 by unfold wA;simp] at this
theorem dS (w:World) (s:ByteArray) (p:Nat):((wA w).iter s p).iterPos (w.heap.size+1)=p:=by
 have:=World.iterPos_iter (wA w) s p
 rwa [show (wA w).heap.size=w.heap.size+1 by unfold wA;simp] at this
theorem aZ (n m:Nat) (h:m=n-1) (h0:0<n) (hn:n<9223372036854775807):wrap64 ((n:Int)-(m:Int))=1/\(n:Int)-(m:Int)=1:=by subst h;unfold wrap64;omega
theorem aE (K n m E:Nat) (hm:m=n-1) (h0:0<n) (hn:n<9223372036854775807) (h:K<=m) (hE:E=1+K):wrap64 (1+(K:Int))=(E:Int)/\1+(K:Int)=(E:Int)/\wrap64 (E:Int)=(E:Int):=by subst hE;unfold wrap64;omega
theorem aS (n m:Nat) (hm:m=n-1) (hn:n<9223372036854775807):m<9223372036854775807:=by omega
theorem jo (s:ByteArray) (hi:0<s.size) (w:World) {P:Program} (t:TypeId) (h:P.underlying t=some .string):(Instr.index t (.string s) (.int .i64 0)).run P w=.ok (.int .u8 (bt s 0)) w:=PQ s 0 hi w t h
end Lx
theorem aag (s:ByteArray) (h0:0<s.size) (h63:s.size<9223372036854775807) (hc:bt s 0≠126) (h1:en s dg 0=0) (w:World):Calls Tryz.prog 114 #[.string s] w fun e w'=>e=.returned (gH (none))/\Below w.heap.size w w':=by
 have hx:=fun (w:World)=>jo s h0 w (P:=Tryz.prog) 9 Tryz.underlying9;have q0:(bt s 0 == 126)=false:=beq_eq_false_iff_ne.2 hc;have HA:=ae (fun j (h:j<en s dg 0)=>mY s dg (Nat.zero_le j) h);have fu:=ae (jl s dg (Nat.zero_le _));have HN:=ae (qL s dg (i:=0));obtain ⟨K,hK⟩:∃K,en s dg 0=K:=⟨_,rfl⟩;obtain ⟨PV,fo⟩:∃PV,bE s 1 K 0 0=PV:=⟨_,rfl⟩;have HF:=ae fo;rw [hK] at HA fu HN h1;have HO:Hid (gH (none)=.tuple #[.agg #[.int .i64 0,.string ⟨#[]⟩,.int .i64 0,.int .i64 0],.int .i64 0,.int .i64 110]):=ae rfl;generalize gH (none)=OUT at HO ⊢;have jN:Hid (s.size<9223372036854775807):=ae (h63);have z1:((K:Int) == 0)=true:=beq_iff_eq.2 (by omega);clear hc hK fo h1;obtain ⟨d,hd⟩:∃d,d=s:=⟨_,rfl⟩;subst hd;go_enter Tryz.func114,Tryz.ntmps114;go_wp2;go_loopw [7,8] (fun n l w'=>∃k:Nat,w'=(wA w).iter d k/\n=.int .i64 (bE d 1 k 0 0)/\l=.int .i64 k/\k<=K) (fun _ _ w'=>d.size-w'.iterPos (w.heap.size+1))
 case atStart=>exact ⟨0,rfl,rfl,rfl,Nat.zero_le _⟩
 case round =>
  obtain ⟨k,rfl,rfl,rfl,hk⟩:=hrel;by_cases df:k<K
  ·have hd:=iZ (HA.out k df);have hp:k<d.size:=by have:=fu.out;omega
   have hnx:∀ty,(Instr.next (.pointer (some ⟨w.heap.size+1,0,none⟩)) true ty).run Tryz.prog ((wA w).iter d k)=_:=fun ty=>iK w d k hp (by omega) ty;have HD:=ae (fT (bt d k) ((wA w).iter d (k+1)));rw [HA.out k df] at HD;have hb:=lC d 1 (by decide) k fun j hj=>HA.out j (by omega);have hs:=mh d 1 k 0 0;rw [Nat.zero_add] at hs;have HJ:=ae (lD (bE d 1 k 0 0) ((wA w).iter d (k+1)) (by omega) (by omega));have hwl:wrap64 ((k:Int)+1)=((k+1:Nat):Int):=by have:=jN.out;unfold wrap64;omega
   obtain ⟨V',hV'⟩:∃V',V'=bE d 1 (k+1) 0 0:=⟨_,rfl⟩;rw [<- hV'] at hs;have fC:=ae hV';clear hV' HF;generalize bE d 1 k 0 0=V at *;generalize bt d k=c at *;cases hi:dh V with
   | true =>
    rw [hi,if_pos rfl] at hs;rw [hi] at HJ;have hw1:wrap64 (V*10)=V*10:=by unfold wrap64;omega
    have hw2:IntKind.i32.wrap (c-48)=c-48:=by rw [IntKind.wrap_i32];omega
    have qj:wrap32 (c-48)=c-48:=by unfold wrap32;omega
    have hw3:wrap64 (1*(c-48))=1*(c-48):=by unfold wrap64;omega
    have hw4:wrap64 (V*10+1*(c-48))=V':=by rw [hs];unfold wrap64;omega
    have fQ:=ae hw4;clear hd hb hs;go_wp2_with fail;refine HD.out.mono ?_;rintro e u ⟨rfl,rfl⟩;go_wp2_with fail;refine HJ.out.mono ?_;rintro e u ⟨rfl,rfl⟩;go_wp2;go_roundw
    case rel=>exact ⟨k+1,rfl,by rw [<- fC.out,<- fQ.out];first|rfl|(congr 1;done)|(congr 1;unfold wrap64;omega),by first|rfl|(congr 1),df⟩
    case measure=>rw [dS,dS];omega
   | false =>
    rw [hi,if_neg (by decide)] at hs;rw [hi] at HJ;have HS:=ae hs;clear hd hb hs;go_wp2_with fail;refine HD.out.mono ?_;rintro e u ⟨rfl,rfl⟩;go_wp2_with fail;refine HJ.out.mono ?_;rintro e u ⟨rfl,rfl⟩;go_wp2;go_roundw
    case rel=>exact ⟨k+1,rfl,by rw [<- fC.out,HS.out],by first|rfl|(congr 1),df⟩
    case measure=>rw [dS,dS];omega
  ·obtain rfl:k=K:=by omega
   have fD:=ae (show bE d 1 k 0 0=PV from HF.out);rw [fD.out];clear fD HF;by_cases hp:k<d.size
   ·have key:∃(wd:Nat) (c:Int),(∀ty,(Instr.next (.pointer (some ⟨w.heap.size+1,0,none⟩)) true ty).run Tryz.prog ((wA w).iter d k)=.ok (.tuple #[.bool true,.int .i64 k,.int .i32 c]) ((wA w).iter d (k+wd)))/\dg c=false:=by
     by_cases hb:bt d k<128
     ·exact ⟨1,bt d k,fun ty=>iK w d k hp hb ty,HN.out hp⟩
     ·exact ⟨_,_,fun ty=>oz w d k hp ty,nK (mG d k hp hb).1⟩
    obtain ⟨wd,c,hnx,fe⟩:=key;have HD:=ae (fT c ((wA w).iter d (k+wd)));rw [fe] at HD;clear fe HN HA;go_wp2_with fail;refine HD.out.mono ?_;rintro e u ⟨rfl,rfl⟩;obtain ⟨W2,aX,hth,z5,z6,z7,z8,hbl⟩:=((An.start w).on (gG (wA w) d (k+wd))).put (.int .i64 0) (.string ⟨#[]⟩) (.int .i64 0) (.int .i64 0);have HW2:=ae aX;have ay:=ae hth;have bW:=ae hbl;clear aX hth hbl;go_wp2_with (refine wpList_store_mid rfl 47 (.tmp 2) (.tmp 53) rfl w.heap.size 0 #[.int .i64 0,.string ⟨#[]⟩,.int .i64 0,.int .i64 0] rfl rfl ay.out eQ (by simp [Value.oneCell']) ?_;rw [HW2.out]);refine bodyPost_ret (v:=.tuple #[.agg #[.int .i64 0,.string ⟨#[]⟩,.int .i64 0,.int .i64 0],.int .i64 0,.int .i64 110]) (by simp [results,Tryz.results114,go_sem,z5,z6,z7,z8]) rfl ⟨congrArg _ HO.out.symm,bW.out⟩
   ·have hnx:∀ty,(Instr.next (.pointer (some ⟨w.heap.size+1,0,none⟩)) true ty).run Tryz.prog ((wA w).iter d k)=_:=fun ty=>oF w d k hp ty;clear HN HA;obtain ⟨W2,aX,hth,z5,z6,z7,z8,hbl⟩:=((An.start w).on (gG (wA w) d k)).put (.int .i64 0) (.string ⟨#[]⟩) (.int .i64 0) (.int .i64 0);have HW2:=ae aX;have ay:=ae hth;have bW:=ae hbl;clear aX hth hbl;go_wp2_with (refine wpList_store_mid rfl 47 (.tmp 2) (.tmp 53) rfl w.heap.size 0 #[.int .i64 0,.string ⟨#[]⟩,.int .i64 0,.int .i64 0] rfl rfl ay.out eQ (by simp [Value.oneCell']) ?_;rw [HW2.out]);refine bodyPost_ret (v:=.tuple #[.agg #[.int .i64 0,.string ⟨#[]⟩,.int .i64 0,.int .i64 0],.int .i64 0,.int .i64 110]) (by simp [results,Tryz.results114,go_sem,z5,z6,z7,z8]) rfl ⟨congrArg _ HO.out.symm,bW.out⟩
theorem aah (s:ByteArray) (h0:0<s.size) (h63:s.size<9223372036854775807) (hc:bt s 0=126) (h1:en (s.extract 1 s.size) dg 0=0) (w:World):Calls Tryz.prog 114 #[.string s] w fun e w'=>e=.returned (gH (none))/\Below w.heap.size w w':=by
 have hx:=fun (w:World)=>jo s h0 w (P:=Tryz.prog) 9 Tryz.underlying9;have q0:(bt s 0 == 126)=true:=beq_iff_eq.2 hc;have hsz:(s.extract 1 s.size).size=s.size-1:=nV s 1;have HA:=ae (fun j (h:j<en (s.extract 1 s.size) dg 0)=>mY (s.extract 1 s.size) dg (Nat.zero_le j) h);have fu:=ae (jl (s.extract 1 s.size) dg (Nat.zero_le _));have HN:=ae (qL (s.extract 1 s.size) dg (i:=0));obtain ⟨K,hK⟩:∃K,en (s.extract 1 s.size) dg 0=K:=⟨_,rfl⟩;obtain ⟨PV,fo⟩:∃PV,bE (s.extract 1 s.size) (-1) K 0 0=PV:=⟨_,rfl⟩;have HF:=ae fo;rw [hK] at HA fu HN h1;have HO:Hid (gH (none)=.tuple #[.agg #[.int .i64 0,.string ⟨#[]⟩,.int .i64 0,.int .i64 0],.int .i64 0,.int .i64 110]):=ae rfl;generalize gH (none)=OUT at HO ⊢;have jN:Hid ((s.extract 1 s.size).size<9223372036854775807):=ae (aS _ _ hsz h63);have z1:((K:Int) == 0)=true:=beq_iff_eq.2 (by omega);clear hc hK fo h1 hsz;go_enter Tryz.func114,Tryz.ntmps114;go_wp2;generalize s.extract 1 s.size=d at *;go_loopw [7,8] (fun n l w'=>∃k:Nat,w'=(wA w).iter d k/\n=.int .i64 (bE d (-1) k 0 0)/\l=.int .i64 k/\k<=K) (fun _ _ w'=>d.size-w'.iterPos (w.heap.size+1))
 case atStart=>exact ⟨0,rfl,rfl,rfl,Nat.zero_le _⟩
 case round =>
  obtain ⟨k,rfl,rfl,rfl,hk⟩:=hrel;by_cases df:k<K
  ·have hd:=iZ (HA.out k df);have hp:k<d.size:=by have:=fu.out;omega
   have hnx:∀ty,(Instr.next (.pointer (some ⟨w.heap.size+1,0,none⟩)) true ty).run Tryz.prog ((wA w).iter d k)=_:=fun ty=>iK w d k hp (by omega) ty;have HD:=ae (fT (bt d k) ((wA w).iter d (k+1)));rw [HA.out k df] at HD;have hb:=lC d (-1) (by decide) k fun j hj=>HA.out j (by omega);have hs:=mh d (-1) k 0 0;rw [Nat.zero_add] at hs;have HJ:=ae (lD (bE d (-1) k 0 0) ((wA w).iter d (k+1)) (by omega) (by omega));have hwl:wrap64 ((k:Int)+1)=((k+1:Nat):Int):=by have:=jN.out;unfold wrap64;omega
   obtain ⟨V',hV'⟩:∃V',V'=bE d (-1) (k+1) 0 0:=⟨_,rfl⟩;rw [<- hV'] at hs;have fC:=ae hV';clear hV' HF;generalize bE d (-1) k 0 0=V at *;generalize bt d k=c at *;cases hi:dh V with
   | true =>
    rw [hi,if_pos rfl] at hs;rw [hi] at HJ;have hw1:wrap64 (V*10)=V*10:=by unfold wrap64;omega
    have hw2:IntKind.i32.wrap (c-48)=c-48:=by rw [IntKind.wrap_i32];omega
    have qj:wrap32 (c-48)=c-48:=by unfold wrap32;omega
    have hw3:wrap64 ((-1)*(c-48))=(-1)*(c-48):=by unfold wrap64;omega
    have hw4:wrap64 (V*10+(-1)*(c-48))=V':=by rw [hs];unfold wrap64;omega
    have fQ:=ae hw4;clear hd hb hs;go_wp2_with fail;refine HD.out.mono ?_;rintro e u ⟨rfl,rfl⟩;go_wp2_with fail;refine HJ.out.mono ?_;rintro e u ⟨rfl,rfl⟩;go_wp2;go_roundw
    case rel=>exact ⟨k+1,rfl,by rw [<- fC.out,<- fQ.out];first|rfl|(congr 1;done)|(congr 1;unfold wrap64;omega),by first|rfl|(congr 1),df⟩
    case measure=>rw [dS,dS];omega
   | false =>
    rw [hi,if_neg (by decide)] at hs;rw [hi] at HJ;have HS:=ae hs;clear hd hb hs;go_wp2_with fail;refine HD.out.mono ?_;rintro e u ⟨rfl,rfl⟩;go_wp2_with fail;refine HJ.out.mono ?_;rintro e u ⟨rfl,rfl⟩;go_wp2;go_roundw
    case rel=>exact ⟨k+1,rfl,by rw [<- fC.out,HS.out],by first|rfl|(congr 1),df⟩
    case measure=>rw [dS,dS];omega
  ·obtain rfl:k=K:=by omega
   have fD:=ae (show bE d (-1) k 0 0=PV from HF.out);rw [fD.out];clear fD HF;by_cases hp:k<d.size
   ·have key:∃(wd:Nat) (c:Int),(∀ty,(Instr.next (.pointer (some ⟨w.heap.size+1,0,none⟩)) true ty).run Tryz.prog ((wA w).iter d k)=.ok (.tuple #[.bool true,.int .i64 k,.int .i32 c]) ((wA w).iter d (k+wd)))/\dg c=false:=by
     by_cases hb:bt d k<128
     ·exact ⟨1,bt d k,fun ty=>iK w d k hp hb ty,HN.out hp⟩
     ·exact ⟨_,_,fun ty=>oz w d k hp ty,nK (mG d k hp hb).1⟩
    obtain ⟨wd,c,hnx,fe⟩:=key;have HD:=ae (fT c ((wA w).iter d (k+wd)));rw [fe] at HD;clear fe HN HA;go_wp2_with fail;refine HD.out.mono ?_;rintro e u ⟨rfl,rfl⟩;obtain ⟨W2,aX,hth,z5,z6,z7,z8,hbl⟩:=((An.start w).on (gG (wA w) d (k+wd))).put (.int .i64 0) (.string ⟨#[]⟩) (.int .i64 0) (.int .i64 0);have HW2:=ae aX;have ay:=ae hth;have bW:=ae hbl;clear aX hth hbl;go_wp2_with (refine wpList_store_mid rfl 47 (.tmp 2) (.tmp 53) rfl w.heap.size 0 #[.int .i64 0,.string ⟨#[]⟩,.int .i64 0,.int .i64 0] rfl rfl ay.out eQ (by simp [Value.oneCell']) ?_;rw [HW2.out]);refine bodyPost_ret (v:=.tuple #[.agg #[.int .i64 0,.string ⟨#[]⟩,.int .i64 0,.int .i64 0],.int .i64 0,.int .i64 110]) (by simp [results,Tryz.results114,go_sem,z5,z6,z7,z8]) rfl ⟨congrArg _ HO.out.symm,bW.out⟩
   ·have hnx:∀ty,(Instr.next (.pointer (some ⟨w.heap.size+1,0,none⟩)) true ty).run Tryz.prog ((wA w).iter d k)=_:=fun ty=>oF w d k hp ty;clear HN HA;obtain ⟨W2,aX,hth,z5,z6,z7,z8,hbl⟩:=((An.start w).on (gG (wA w) d k)).put (.int .i64 0) (.string ⟨#[]⟩) (.int .i64 0) (.int .i64 0);have HW2:=ae aX;have ay:=ae hth;have bW:=ae hbl;clear aX hth hbl;go_wp2_with (refine wpList_store_mid rfl 47 (.tmp 2) (.tmp 53) rfl w.heap.size 0 #[.int .i64 0,.string ⟨#[]⟩,.int .i64 0,.int .i64 0] rfl rfl ay.out eQ (by simp [Value.oneCell']) ?_;rw [HW2.out]);refine bodyPost_ret (v:=.tuple #[.agg #[.int .i64 0,.string ⟨#[]⟩,.int .i64 0,.int .i64 0],.int .i64 0,.int .i64 110]) (by simp [results,Tryz.results114,go_sem,z5,z6,z7,z8]) rfl ⟨congrArg _ HO.out.symm,bW.out⟩
theorem aai (s:ByteArray) (h0:0<s.size) (h63:s.size<9223372036854775807) (hc:bt s 0≠126) (h1:1<en s dg 0) (h2:bt s 0=48) (w:World):Calls Tryz.prog 114 #[.string s] w fun e w'=>e=.returned (gH (none))/\Below w.heap.size w w':=by
 have hx:=fun (w:World)=>jo s h0 w (P:=Tryz.prog) 9 Tryz.underlying9;have q0:(bt s 0 == 126)=false:=beq_eq_false_iff_ne.2 hc;have HA:=ae (fun j (h:j<en s dg 0)=>mY s dg (Nat.zero_le j) h);have fu:=ae (jl s dg (Nat.zero_le _));have HN:=ae (qL s dg (i:=0));obtain ⟨K,hK⟩:∃K,en s dg 0=K:=⟨_,rfl⟩;obtain ⟨PV,fo⟩:∃PV,bE s 1 K 0 0=PV:=⟨_,rfl⟩;have HF:=ae fo;rw [hK] at HA fu HN h1;have HO:Hid (gH (none)=.tuple #[.agg #[.int .i64 0,.string ⟨#[]⟩,.int .i64 0,.int .i64 0],.int .i64 0,.int .i64 110]):=ae rfl;generalize gH (none)=OUT at HO ⊢;have jN:Hid (s.size<9223372036854775807):=ae (h63);have z1:((K:Int) == 0)=false:=beq_eq_false_iff_ne.2 (by omega);have z2:decide ((K:Int) > 1)=true:=decide_eq_true (by omega);have z3:1<K:=h1;have z4:(bt s 0 == 48)=true:=beq_iff_eq.2 h2;have hy:=fun (w:World)=>jo s (by have:=fu.out;omega) w (P:=Tryz.prog) 9 Tryz.underlying9;clear hc hK fo h1;obtain ⟨d,hd⟩:∃d,d=s:=⟨_,rfl⟩;subst hd;go_enter Tryz.func114,Tryz.ntmps114;go_wp2;go_loopw [7,8] (fun n l w'=>∃k:Nat,w'=(wA w).iter d k/\n=.int .i64 (bE d 1 k 0 0)/\l=.int .i64 k/\k<=K) (fun _ _ w'=>d.size-w'.iterPos (w.heap.size+1))
 case atStart=>exact ⟨0,rfl,rfl,rfl,Nat.zero_le _⟩
 case round =>
  obtain ⟨k,rfl,rfl,rfl,hk⟩:=hrel;by_cases df:k<K
  ·have hd:=iZ (HA.out k df);have hp:k<d.size:=by have:=fu.out;omega
   have hnx:∀ty,(Instr.next (.pointer (some ⟨w.heap.size+1,0,none⟩)) true ty).run Tryz.prog ((wA w).iter d k)=_:=fun ty=>iK w d k hp (by omega) ty;have HD:=ae (fT (bt d k) ((wA w).iter d (k+1)));rw [HA.out k df] at HD;have hb:=lC d 1 (by decide) k fun j hj=>HA.out j (by omega);have hs:=mh d 1 k 0 0;rw [Nat.zero_add] at hs;have HJ:=ae (lD (bE d 1 k 0 0) ((wA w).iter d (k+1)) (by omega) (by omega));have hwl:wrap64 ((k:Int)+1)=((k+1:Nat):Int):=by have:=jN.out;unfold wrap64;omega
   obtain ⟨V',hV'⟩:∃V',V'=bE d 1 (k+1) 0 0:=⟨_,rfl⟩;rw [<- hV'] at hs;have fC:=ae hV';clear hV' HF;generalize bE d 1 k 0 0=V at *;generalize bt d k=c at *;cases hi:dh V with
   | true =>
    rw [hi,if_pos rfl] at hs;rw [hi] at HJ;have hw1:wrap64 (V*10)=V*10:=by unfold wrap64;omega
    have hw2:IntKind.i32.wrap (c-48)=c-48:=by rw [IntKind.wrap_i32];omega
    have qj:wrap32 (c-48)=c-48:=by unfold wrap32;omega
    have hw3:wrap64 (1*(c-48))=1*(c-48):=by unfold wrap64;omega
    have hw4:wrap64 (V*10+1*(c-48))=V':=by rw [hs];unfold wrap64;omega
    have fQ:=ae hw4;clear hd hb hs;go_wp2_with fail;refine HD.out.mono ?_;rintro e u ⟨rfl,rfl⟩;go_wp2_with fail;refine HJ.out.mono ?_;rintro e u ⟨rfl,rfl⟩;go_wp2;go_roundw
    case rel=>exact ⟨k+1,rfl,by rw [<- fC.out,<- fQ.out];first|rfl|(congr 1;done)|(congr 1;unfold wrap64;omega),by first|rfl|(congr 1),df⟩
    case measure=>rw [dS,dS];omega
   | false =>
    rw [hi,if_neg (by decide)] at hs;rw [hi] at HJ;have HS:=ae hs;clear hd hb hs;go_wp2_with fail;refine HD.out.mono ?_;rintro e u ⟨rfl,rfl⟩;go_wp2_with fail;refine HJ.out.mono ?_;rintro e u ⟨rfl,rfl⟩;go_wp2;go_roundw
    case rel=>exact ⟨k+1,rfl,by rw [<- fC.out,HS.out],by first|rfl|(congr 1),df⟩
    case measure=>rw [dS,dS];omega
  ·obtain rfl:k=K:=by omega
   have fD:=ae (show bE d 1 k 0 0=PV from HF.out);rw [fD.out];clear fD HF;by_cases hp:k<d.size
   ·have key:∃(wd:Nat) (c:Int),(∀ty,(Instr.next (.pointer (some ⟨w.heap.size+1,0,none⟩)) true ty).run Tryz.prog ((wA w).iter d k)=.ok (.tuple #[.bool true,.int .i64 k,.int .i32 c]) ((wA w).iter d (k+wd)))/\dg c=false:=by
     by_cases hb:bt d k<128
     ·exact ⟨1,bt d k,fun ty=>iK w d k hp hb ty,HN.out hp⟩
     ·exact ⟨_,_,fun ty=>oz w d k hp ty,nK (mG d k hp hb).1⟩
    obtain ⟨wd,c,hnx,fe⟩:=key;have HD:=ae (fT c ((wA w).iter d (k+wd)));rw [fe] at HD;clear fe HN HA;go_wp2_with fail;refine HD.out.mono ?_;rintro e u ⟨rfl,rfl⟩;obtain ⟨W2,aX,hth,z5,z6,z7,z8,hbl⟩:=((An.start w).on (gG (wA w) d (k+wd))).put (.int .i64 0) (.string ⟨#[]⟩) (.int .i64 0) (.int .i64 0);have HW2:=ae aX;have ay:=ae hth;have bW:=ae hbl;clear aX hth hbl;go_wp2_with (refine wpList_store_mid rfl 47 (.tmp 2) (.tmp 53) rfl w.heap.size 0 #[.int .i64 0,.string ⟨#[]⟩,.int .i64 0,.int .i64 0] rfl rfl ay.out eQ (by simp [Value.oneCell']) ?_;rw [HW2.out]);refine bodyPost_ret (v:=.tuple #[.agg #[.int .i64 0,.string ⟨#[]⟩,.int .i64 0,.int .i64 0],.int .i64 0,.int .i64 110]) (by simp [results,Tryz.results114,go_sem,z5,z6,z7,z8]) rfl ⟨congrArg _ HO.out.symm,bW.out⟩
   ·have hnx:∀ty,(Instr.next (.pointer (some ⟨w.heap.size+1,0,none⟩)) true ty).run Tryz.prog ((wA w).iter d k)=_:=fun ty=>oF w d k hp ty;clear HN HA;obtain ⟨W2,aX,hth,z5,z6,z7,z8,hbl⟩:=((An.start w).on (gG (wA w) d k)).put (.int .i64 0) (.string ⟨#[]⟩) (.int .i64 0) (.int .i64 0);have HW2:=ae aX;have ay:=ae hth;have bW:=ae hbl;clear aX hth hbl;go_wp2_with (refine wpList_store_mid rfl 47 (.tmp 2) (.tmp 53) rfl w.heap.size 0 #[.int .i64 0,.string ⟨#[]⟩,.int .i64 0,.int .i64 0] rfl rfl ay.out eQ (by simp [Value.oneCell']) ?_;rw [HW2.out]);refine bodyPost_ret (v:=.tuple #[.agg #[.int .i64 0,.string ⟨#[]⟩,.int .i64 0,.int .i64 0],.int .i64 0,.int .i64 110]) (by simp [results,Tryz.results114,go_sem,z5,z6,z7,z8]) rfl ⟨congrArg _ HO.out.symm,bW.out⟩
theorem aaj (s:ByteArray) (h0:0<s.size) (h63:s.size<9223372036854775807) (hc:bt s 0=126) (h1:1<en (s.extract 1 s.size) dg 0) (h2:bt (s.extract 1 s.size) 0=48) (w:World):Calls Tryz.prog 114 #[.string s] w fun e w'=>e=.returned (gH (none))/\Below w.heap.size w w':=by
 have hx:=fun (w:World)=>jo s h0 w (P:=Tryz.prog) 9 Tryz.underlying9;have q0:(bt s 0 == 126)=true:=beq_iff_eq.2 hc;have hsz:(s.extract 1 s.size).size=s.size-1:=nV s 1;have HA:=ae (fun j (h:j<en (s.extract 1 s.size) dg 0)=>mY (s.extract 1 s.size) dg (Nat.zero_le j) h);have fu:=ae (jl (s.extract 1 s.size) dg (Nat.zero_le _));have HN:=ae (qL (s.extract 1 s.size) dg (i:=0));obtain ⟨K,hK⟩:∃K,en (s.extract 1 s.size) dg 0=K:=⟨_,rfl⟩;obtain ⟨PV,fo⟩:∃PV,bE (s.extract 1 s.size) (-1) K 0 0=PV:=⟨_,rfl⟩;have HF:=ae fo;rw [hK] at HA fu HN h1;have HO:Hid (gH (none)=.tuple #[.agg #[.int .i64 0,.string ⟨#[]⟩,.int .i64 0,.int .i64 0],.int .i64 0,.int .i64 110]):=ae rfl;generalize gH (none)=OUT at HO ⊢;have jN:Hid ((s.extract 1 s.size).size<9223372036854775807):=ae (aS _ _ hsz h63);have z1:((K:Int) == 0)=false:=beq_eq_false_iff_ne.2 (by omega);have z2:decide ((K:Int) > 1)=true:=decide_eq_true (by omega);have z3:1<K:=h1;have z4:(bt (s.extract 1 s.size) 0 == 48)=true:=beq_iff_eq.2 h2;have hy:=fun (w:World)=>jo (s.extract 1 s.size) (by have:=fu.out;omega) w (P:=Tryz.prog) 9 Tryz.underlying9;clear hc hK fo h1 hsz;go_enter Tryz.func114,Tryz.ntmps114;go_wp2;generalize s.extract 1 s.size=d at *;go_loopw [7,8] (fun n l w'=>∃k:Nat,w'=(wA w).iter d k/\n=.int .i64 (bE d (-1) k 0 0)/\l=.int .i64 k/\k<=K) (fun _ _ w'=>d.size-w'.iterPos (w.heap.size+1))
 case atStart=>exact ⟨0,rfl,rfl,rfl,Nat.zero_le _⟩
 case round =>
  obtain ⟨k,rfl,rfl,rfl,hk⟩:=hrel;by_cases df:k<K
  ·have hd:=iZ (HA.out k df);have hp:k<d.size:=by have:=fu.out;omega
   have hnx:∀ty,(Instr.next (.pointer (some ⟨w.heap.size+1,0,none⟩)) true ty).run Tryz.prog ((wA w).iter d k)=_:=fun ty=>iK w d k hp (by omega) ty;have HD:=ae (fT (bt d k) ((wA w).iter d (k+1)));rw [HA.out k df] at HD;have hb:=lC d (-1) (by decide) k fun j hj=>HA.out j (by omega);have hs:=mh d (-1) k 0 0;rw [Nat.zero_add] at hs;have HJ:=ae (lD (bE d (-1) k 0 0) ((wA w).iter d (k+1)) (by omega) (by omega));have hwl:wrap64 ((k:Int)+1)=((k+1:Nat):Int):=by have:=jN.out;unfold wrap64;omega
   obtain ⟨V',hV'⟩:∃V',V'=bE d (-1) (k+1) 0 0:=⟨_,rfl⟩;rw [<- hV'] at hs;have fC:=ae hV';clear hV' HF;generalize bE d (-1) k 0 0=V at *;generalize bt d k=c at *;cases hi:dh V with
   | true =>
    rw [hi,if_pos rfl] at hs;rw [hi] at HJ;have hw1:wrap64 (V*10)=V*10:=by unfold wrap64;omega
    have hw2:IntKind.i32.wrap (c-48)=c-48:=by rw [IntKind.wrap_i32];omega
    have qj:wrap32 (c-48)=c-48:=by unfold wrap32;omega
    have hw3:wrap64 ((-1)*(c-48))=(-1)*(c-48):=by unfold wrap64;omega
    have hw4:wrap64 (V*10+(-1)*(c-48))=V':=by rw [hs];unfold wrap64;omega
    have fQ:=ae hw4;clear hd hb hs;go_wp2_with fail;refine HD.out.mono ?_;rintro e u ⟨rfl,rfl⟩;go_wp2_with fail;refine HJ.out.mono ?_;rintro e u ⟨rfl,rfl⟩;go_wp2;go_roundw
    case rel=>exact ⟨k+1,rfl,by rw [<- fC.out,<- fQ.out];first|rfl|(congr 1;done)|(congr 1;unfold wrap64;omega),by first|rfl|(congr 1),df⟩
    case measure=>rw [dS,dS];omega
   | false =>
    rw [hi,if_neg (by decide)] at hs;rw [hi] at HJ;have HS:=ae hs;clear hd hb hs;go_wp2_with fail;refine HD.out.mono ?_;rintro e u ⟨rfl,rfl⟩;go_wp2_with fail;refine HJ.out.mono ?_;rintro e u ⟨rfl,rfl⟩;go_wp2;go_roundw
    case rel=>exact ⟨k+1,rfl,by rw [<- fC.out,HS.out],by first|rfl|(congr 1),df⟩
    case measure=>rw [dS,dS];omega
  ·obtain rfl:k=K:=by omega
   have fD:=ae (show bE d (-1) k 0 0=PV from HF.out);rw [fD.out];clear fD HF;by_cases hp:k<d.size
   ·have key:∃(wd:Nat) (c:Int),(∀ty,(Instr.next (.pointer (some ⟨w.heap.size+1,0,none⟩)) true ty).run Tryz.prog ((wA w).iter d k)=.ok (.tuple #[.bool true,.int .i64 k,.int .i32 c]) ((wA w).iter d (k+wd)))/\dg c=false:=by
     by_cases hb:bt d k<128
     ·exact ⟨1,bt d k,fun ty=>iK w d k hp hb ty,HN.out hp⟩
     ·exact ⟨_,_,fun ty=>oz w d k hp ty,nK (mG d k hp hb).1⟩
    obtain ⟨wd,c,hnx,fe⟩:=key;have HD:=ae (fT c ((wA w).iter d (k+wd)));rw [fe] at HD;clear fe HN HA;go_wp2_with fail;refine HD.out.mono ?_;rintro e u ⟨rfl,rfl⟩;obtain ⟨W2,aX,hth,z5,z6,z7,z8,hbl⟩:=((An.start w).on (gG (wA w) d (k+wd))).put (.int .i64 0) (.string ⟨#[]⟩) (.int .i64 0) (.int .i64 0);have HW2:=ae aX;have ay:=ae hth;have bW:=ae hbl;clear aX hth hbl;go_wp2_with (refine wpList_store_mid rfl 47 (.tmp 2) (.tmp 53) rfl w.heap.size 0 #[.int .i64 0,.string ⟨#[]⟩,.int .i64 0,.int .i64 0] rfl rfl ay.out eQ (by simp [Value.oneCell']) ?_;rw [HW2.out]);refine bodyPost_ret (v:=.tuple #[.agg #[.int .i64 0,.string ⟨#[]⟩,.int .i64 0,.int .i64 0],.int .i64 0,.int .i64 110]) (by simp [results,Tryz.results114,go_sem,z5,z6,z7,z8]) rfl ⟨congrArg _ HO.out.symm,bW.out⟩
   ·have hnx:∀ty,(Instr.next (.pointer (some ⟨w.heap.size+1,0,none⟩)) true ty).run Tryz.prog ((wA w).iter d k)=_:=fun ty=>oF w d k hp ty;clear HN HA;obtain ⟨W2,aX,hth,z5,z6,z7,z8,hbl⟩:=((An.start w).on (gG (wA w) d k)).put (.int .i64 0) (.string ⟨#[]⟩) (.int .i64 0) (.int .i64 0);have HW2:=ae aX;have ay:=ae hth;have bW:=ae hbl;clear aX hth hbl;go_wp2_with (refine wpList_store_mid rfl 47 (.tmp 2) (.tmp 53) rfl w.heap.size 0 #[.int .i64 0,.string ⟨#[]⟩,.int .i64 0,.int .i64 0] rfl rfl ay.out eQ (by simp [Value.oneCell']) ?_;rw [HW2.out]);refine bodyPost_ret (v:=.tuple #[.agg #[.int .i64 0,.string ⟨#[]⟩,.int .i64 0,.int .i64 0],.int .i64 0,.int .i64 110]) (by simp [results,Tryz.results114,go_sem,z5,z6,z7,z8]) rfl ⟨congrArg _ HO.out.symm,bW.out⟩
theorem aak (s:ByteArray) (h0:0<s.size) (h63:s.size<9223372036854775807) (hc:bt s 0≠126) (h1:0<en s dg 0) (h2:¬ (1<en s dg 0/\bt s 0=48)) (h3:dh (bE s 1 (en s dg 0) 0 0)=false) (w:World):Calls Tryz.prog 114 #[.string s] w fun e w'=>e=.returned (gH (none))/\Below w.heap.size w w':=by
 have hx:=fun (w:World)=>jo s h0 w (P:=Tryz.prog) 9 Tryz.underlying9;have q0:(bt s 0 == 126)=false:=beq_eq_false_iff_ne.2 hc;have HA:=ae (fun j (h:j<en s dg 0)=>mY s dg (Nat.zero_le j) h);have fu:=ae (jl s dg (Nat.zero_le _));have HN:=ae (qL s dg (i:=0));obtain ⟨K,hK⟩:∃K,en s dg 0=K:=⟨_,rfl⟩;obtain ⟨PV,fo⟩:∃PV,bE s 1 K 0 0=PV:=⟨_,rfl⟩;have HF:=ae fo;rw [hK,fo] at h3;rw [hK] at HA fu HN h1 h2;have iH:=ae (lC s 1 (by decide) K fun j hj=>HA.out j hj);rw [fo] at iH;have HI:=ae (fun w=>lD PV w (by have:=iH.out;omega) (by have:=iH.out;omega));rw [h3] at HI;have HO:Hid (gH (none)=.tuple #[.agg #[.int .i64 0,.string ⟨#[]⟩,.int .i64 0,.int .i64 0],.int .i64 0,.int .i64 110]):=ae rfl;generalize gH (none)=OUT at HO ⊢;have jN:Hid (s.size<9223372036854775807):=ae (h63);have z1:((K:Int) == 0)=false:=beq_eq_false_iff_ne.2 (by omega);have hy:=fun (w:World)=>jo s (by have:=fu.out;omega) w (P:=Tryz.prog) 9 Tryz.underlying9;by_cases z2:1<K
 ·have z3:decide ((K:Int) > 1)=true:=decide_eq_true (Int.ofNat_lt.2 z2);have z4:(bt s 0 == 48)=false:=beq_eq_false_iff_ne.2 (fun h=>h2 ⟨z2,h⟩);clear h2;clear hc hK fo h1;obtain ⟨d,hd⟩:∃d,d=s:=⟨_,rfl⟩;subst hd;go_enter Tryz.func114,Tryz.ntmps114;go_wp2;go_loopw [7,8] (fun n l w'=>∃k:Nat,w'=(wA w).iter d k/\n=.int .i64 (bE d 1 k 0 0)/\l=.int .i64 k/\k<=K) (fun _ _ w'=>d.size-w'.iterPos (w.heap.size+1))
  case atStart=>exact ⟨0,rfl,rfl,rfl,Nat.zero_le _⟩
  case round =>
   obtain ⟨k,rfl,rfl,rfl,hk⟩:=hrel;by_cases df:k<K
   ·have hd:=iZ (HA.out k df);have hp:k<d.size:=by have:=fu.out;omega
    have hnx:∀ty,(Instr.next (.pointer (some ⟨w.heap.size+1,0,none⟩)) true ty).run Tryz.prog ((wA w).iter d k)=_:=fun ty=>iK w d k hp (by omega) ty;have HD:=ae (fT (bt d k) ((wA w).iter d (k+1)));rw [HA.out k df] at HD;have hb:=lC d 1 (by decide) k fun j hj=>HA.out j (by omega);have hs:=mh d 1 k 0 0;rw [Nat.zero_add] at hs;have HJ:=ae (lD (bE d 1 k 0 0) ((wA w).iter d (k+1)) (by omega) (by omega));have hwl:wrap64 ((k:Int)+1)=((k+1:Nat):Int):=by have:=jN.out;unfold wrap64;omega
    obtain ⟨V',hV'⟩:∃V',V'=bE d 1 (k+1) 0 0:=⟨_,rfl⟩;rw [<- hV'] at hs;have fC:=ae hV';clear hV' HF;generalize bE d 1 k 0 0=V at *;generalize bt d k=c at *;cases hi:dh V with
    | true =>
     rw [hi,if_pos rfl] at hs;rw [hi] at HJ;have hw1:wrap64 (V*10)=V*10:=by unfold wrap64;omega
     have hw2:IntKind.i32.wrap (c-48)=c-48:=by rw [IntKind.wrap_i32];omega
     have qj:wrap32 (c-48)=c-48:=by unfold wrap32;omega
     have hw3:wrap64 (1*(c-48))=1*(c-48):=by unfold wrap64;omega
     have hw4:wrap64 (V*10+1*(c-48))=V':=by rw [hs];unfold wrap64;omega
     have fQ:=ae hw4;clear hd hb hs;go_wp2_with fail;refine HD.out.mono ?_;rintro e u ⟨rfl,rfl⟩;go_wp2_with fail;refine HJ.out.mono ?_;rintro e u ⟨rfl,rfl⟩;go_wp2;go_roundw
     case rel=>exact ⟨k+1,rfl,by rw [<- fC.out,<- fQ.out];first|rfl|(congr 1;done)|(congr 1;unfold wrap64;omega),by first|rfl|(congr 1),df⟩
     case measure=>rw [dS,dS];omega
    | false =>
     rw [hi,if_neg (by decide)] at hs;rw [hi] at HJ;have HS:=ae hs;clear hd hb hs;go_wp2_with fail;refine HD.out.mono ?_;rintro e u ⟨rfl,rfl⟩;go_wp2_with fail;refine HJ.out.mono ?_;rintro e u ⟨rfl,rfl⟩;go_wp2;go_roundw
     case rel=>exact ⟨k+1,rfl,by rw [<- fC.out,HS.out],by first|rfl|(congr 1),df⟩
     case measure=>rw [dS,dS];omega
   ·obtain rfl:k=K:=by omega
    have fD:=ae (show bE d 1 k 0 0=PV from HF.out);rw [fD.out];clear fD HF;by_cases hp:k<d.size
    ·have key:∃(wd:Nat) (c:Int),(∀ty,(Instr.next (.pointer (some ⟨w.heap.size+1,0,none⟩)) true ty).run Tryz.prog ((wA w).iter d k)=.ok (.tuple #[.bool true,.int .i64 k,.int .i32 c]) ((wA w).iter d (k+wd)))/\dg c=false:=by
      by_cases hb:bt d k<128
      ·exact ⟨1,bt d k,fun ty=>iK w d k hp hb ty,HN.out hp⟩
      ·exact ⟨_,_,fun ty=>oz w d k hp ty,nK (mG d k hp hb).1⟩
     obtain ⟨wd,c,hnx,fe⟩:=key;have HD:=ae (fT c ((wA w).iter d (k+wd)));rw [fe] at HD;clear fe HN HA;go_wp2_with fail;refine HD.out.mono ?_;rintro e u ⟨rfl,rfl⟩;obtain ⟨W2,aX,hth,z5,z6,z7,z8,hbl⟩:=((An.start w).on (gG (wA w) d (k+wd))).put (.int .i64 0) (.string ⟨#[]⟩) (.int .i64 0) (.int .i64 0);have HW2:=ae aX;have ay:=ae hth;have bW:=ae hbl;clear aX hth hbl;go_wp2_with fail;refine (HI.out _).mono ?_;rintro e u ⟨rfl,rfl⟩;go_wp2_with (refine wpList_store_mid rfl 47 (.tmp 2) (.tmp 53) rfl w.heap.size 0 #[.int .i64 0,.string ⟨#[]⟩,.int .i64 0,.int .i64 0] rfl rfl ay.out eQ (by simp [Value.oneCell']) ?_;rw [HW2.out]);refine bodyPost_ret (v:=.tuple #[.agg #[.int .i64 0,.string ⟨#[]⟩,.int .i64 0,.int .i64 0],.int .i64 0,.int .i64 110]) (by simp [results,Tryz.results114,go_sem,z5,z6,z7,z8]) rfl ⟨congrArg _ HO.out.symm,bW.out⟩
    ·have hnx:∀ty,(Instr.next (.pointer (some ⟨w.heap.size+1,0,none⟩)) true ty).run Tryz.prog ((wA w).iter d k)=_:=fun ty=>oF w d k hp ty;clear HN HA;obtain ⟨W2,aX,hth,z5,z6,z7,z8,hbl⟩:=((An.start w).on (gG (wA w) d k)).put (.int .i64 0) (.string ⟨#[]⟩) (.int .i64 0) (.int .i64 0);have HW2:=ae aX;have ay:=ae hth;have bW:=ae hbl;clear aX hth hbl;go_wp2_with fail;refine (HI.out _).mono ?_;rintro e u ⟨rfl,rfl⟩;go_wp2_with (refine wpList_store_mid rfl 47 (.tmp 2) (.tmp 53) rfl w.heap.size 0 #[.int .i64 0,.string ⟨#[]⟩,.int .i64 0,.int .i64 0] rfl rfl ay.out eQ (by simp [Value.oneCell']) ?_;rw [HW2.out]);refine bodyPost_ret (v:=.tuple #[.agg #[.int .i64 0,.string ⟨#[]⟩,.int .i64 0,.int .i64 0],.int .i64 0,.int .i64 110]) (by simp [results,Tryz.results114,go_sem,z5,z6,z7,z8]) rfl ⟨congrArg _ HO.out.symm,bW.out⟩
 ·have z3:decide ((K:Int) > 1)=false:=decide_eq_false (fun h=>z2 (Int.ofNat_lt.1 h));clear h2;clear hc hK fo h1;obtain ⟨d,hd⟩:∃d,d=s:=⟨_,rfl⟩;subst hd;go_enter Tryz.func114,Tryz.ntmps114;go_wp2;go_loopw [7,8] (fun n l w'=>∃k:Nat,w'=(wA w).iter d k/\n=.int .i64 (bE d 1 k 0 0)/\l=.int .i64 k/\k<=K) (fun _ _ w'=>d.size-w'.iterPos (w.heap.size+1))
  case atStart=>exact ⟨0,rfl,rfl,rfl,Nat.zero_le _⟩
  case round =>
   obtain ⟨k,rfl,rfl,rfl,hk⟩:=hrel;by_cases df:k<K
   ·have hd:=iZ (HA.out k df);have hp:k<d.size:=by have:=fu.out;omega
    have hnx:∀ty,(Instr.next (.pointer (some ⟨w.heap.size+1,0,none⟩)) true ty).run Tryz.prog ((wA w).iter d k)=_:=fun ty=>iK w d k hp (by omega) ty;have HD:=ae (fT (bt d k) ((wA w).iter d (k+1)));rw [HA.out k df] at HD;have hb:=lC d 1 (by decide) k fun j hj=>HA.out j (by omega);have hs:=mh d 1 k 0 0;rw [Nat.zero_add] at hs;have HJ:=ae (lD (bE d 1 k 0 0) ((wA w).iter d (k+1)) (by omega) (by omega));have hwl:wrap64 ((k:Int)+1)=((k+1:Nat):Int):=by have:=jN.out;unfold wrap64;omega
    obtain ⟨V',hV'⟩:∃V',V'=bE d 1 (k+1) 0 0:=⟨_,rfl⟩;rw [<- hV'] at hs;have fC:=ae hV';clear hV' HF;generalize bE d 1 k 0 0=V at *;generalize bt d k=c at *;cases hi:dh V with
    | true =>
     rw [hi,if_pos rfl] at hs;rw [hi] at HJ;have hw1:wrap64 (V*10)=V*10:=by unfold wrap64;omega
     have hw2:IntKind.i32.wrap (c-48)=c-48:=by rw [IntKind.wrap_i32];omega
     have qj:wrap32 (c-48)=c-48:=by unfold wrap32;omega
     have hw3:wrap64 (1*(c-48))=1*(c-48):=by unfold wrap64;omega
     have hw4:wrap64 (V*10+1*(c-48))=V':=by rw [hs];unfold wrap64;omega
     have fQ:=ae hw4;clear hd hb hs;go_wp2_with fail;refine HD.out.mono ?_;rintro e u ⟨rfl,rfl⟩;go_wp2_with fail;refine HJ.out.mono ?_;rintro e u ⟨rfl,rfl⟩;go_wp2;go_roundw
     case rel=>exact ⟨k+1,rfl,by rw [<- fC.out,<- fQ.out];first|rfl|(congr 1;done)|(congr 1;unfold wrap64;omega),by first|rfl|(congr 1),df⟩
     case measure=>rw [dS,dS];omega
    | false =>
     rw [hi,if_neg (by decide)] at hs;rw [hi] at HJ;have HS:=ae hs;clear hd hb hs;go_wp2_with fail;refine HD.out.mono ?_;rintro e u ⟨rfl,rfl⟩;go_wp2_with fail;refine HJ.out.mono ?_;rintro e u ⟨rfl,rfl⟩;go_wp2;go_roundw
     case rel=>exact ⟨k+1,rfl,by rw [<- fC.out,HS.out],by first|rfl|(congr 1),df⟩
     case measure=>rw [dS,dS];omega
   ·obtain rfl:k=K:=by omega
    have fD:=ae (show bE d 1 k 0 0=PV from HF.out);rw [fD.out];clear fD HF;by_cases hp:k<d.size
    ·have key:∃(wd:Nat) (c:Int),(∀ty,(Instr.next (.pointer (some ⟨w.heap.size+1,0,none⟩)) true ty).run Tryz.prog ((wA w).iter d k)=.ok (.tuple #[.bool true,.int .i64 k,.int .i32 c]) ((wA w).iter d (k+wd)))/\dg c=false:=by
      by_cases hb:bt d k<128
      ·exact ⟨1,bt d k,fun ty=>iK w d k hp hb ty,HN.out hp⟩
      ·exact ⟨_,_,fun ty=>oz w d k hp ty,nK (mG d k hp hb).1⟩
     obtain ⟨wd,c,hnx,fe⟩:=key;have HD:=ae (fT c ((wA w).iter d (k+wd)));rw [fe] at HD;clear fe HN HA;go_wp2_with fail;refine HD.out.mono ?_;rintro e u ⟨rfl,rfl⟩;obtain ⟨W2,aX,hth,z5,z6,z7,z8,hbl⟩:=((An.start w).on (gG (wA w) d (k+wd))).put (.int .i64 0) (.string ⟨#[]⟩) (.int .i64 0) (.int .i64 0);have HW2:=ae aX;have ay:=ae hth;have bW:=ae hbl;clear aX hth hbl;go_wp2_with fail;refine (HI.out _).mono ?_;rintro e u ⟨rfl,rfl⟩;go_wp2_with (refine wpList_store_mid rfl 47 (.tmp 2) (.tmp 53) rfl w.heap.size 0 #[.int .i64 0,.string ⟨#[]⟩,.int .i64 0,.int .i64 0] rfl rfl ay.out eQ (by simp [Value.oneCell']) ?_;rw [HW2.out]);refine bodyPost_ret (v:=.tuple #[.agg #[.int .i64 0,.string ⟨#[]⟩,.int .i64 0,.int .i64 0],.int .i64 0,.int .i64 110]) (by simp [results,Tryz.results114,go_sem,z5,z6,z7,z8]) rfl ⟨congrArg _ HO.out.symm,bW.out⟩
    ·have hnx:∀ty,(Instr.next (.pointer (some ⟨w.heap.size+1,0,none⟩)) true ty).run Tryz.prog ((wA w).iter d k)=_:=fun ty=>oF w d k hp ty;clear HN HA;obtain ⟨W2,aX,hth,z5,z6,z7,z8,hbl⟩:=((An.start w).on (gG (wA w) d k)).put (.int .i64 0) (.string ⟨#[]⟩) (.int .i64 0) (.int .i64 0);have HW2:=ae aX;have ay:=ae hth;have bW:=ae hbl;clear aX hth hbl;go_wp2_with fail;refine (HI.out _).mono ?_;rintro e u ⟨rfl,rfl⟩;go_wp2_with (refine wpList_store_mid rfl 47 (.tmp 2) (.tmp 53) rfl w.heap.size 0 #[.int .i64 0,.string ⟨#[]⟩,.int .i64 0,.int .i64 0] rfl rfl ay.out eQ (by simp [Value.oneCell']) ?_;rw [HW2.out]);refine bodyPost_ret (v:=.tuple #[.agg #[.int .i64 0,.string ⟨#[]⟩,.int .i64 0,.int .i64 0],.int .i64 0,.int .i64 110]) (by simp [results,Tryz.results114,go_sem,z5,z6,z7,z8]) rfl ⟨congrArg _ HO.out.symm,bW.out⟩
theorem aal (s:ByteArray) (h0:0<s.size) (h63:s.size<9223372036854775807) (hc:bt s 0=126) (h1:0<en (s.extract 1 s.size) dg 0) (h2:¬ (1<en (s.extract 1 s.size) dg 0/\bt (s.extract 1 s.size) 0=48)) (h3:dh (bE (s.extract 1 s.size) (-1) (en (s.extract 1 s.size) dg 0) 0 0)=false) (w:World):Calls Tryz.prog 114 #[.string s] w fun e w'=>e=.returned (gH (none))/\Below w.heap.size w w':=by
 have hx:=fun (w:World)=>jo s h0 w (P:=Tryz.prog) 9 Tryz.underlying9;have q0:(bt s 0 == 126)=true:=beq_iff_eq.2 hc;have hsz:(s.extract 1 s.size).size=s.size-1:=nV s 1;have HA:=ae (fun j (h:j<en (s.extract 1 s.size) dg 0)=>mY (s.extract 1 s.size) dg (Nat.zero_le j) h);have fu:=ae (jl (s.extract 1 s.size) dg (Nat.zero_le _));have HN:=ae (qL (s.extract 1 s.size) dg (i:=0));obtain ⟨K,hK⟩:∃K,en (s.extract 1 s.size) dg 0=K:=⟨_,rfl⟩;obtain ⟨PV,fo⟩:∃PV,bE (s.extract 1 s.size) (-1) K 0 0=PV:=⟨_,rfl⟩;have HF:=ae fo;rw [hK,fo] at h3;rw [hK] at HA fu HN h1 h2;have iH:=ae (lC (s.extract 1 s.size) (-1) (by decide) K fun j hj=>HA.out j hj);rw [fo] at iH;have HI:=ae (fun w=>lD PV w (by have:=iH.out;omega) (by have:=iH.out;omega));rw [h3] at HI;have HO:Hid (gH (none)=.tuple #[.agg #[.int .i64 0,.string ⟨#[]⟩,.int .i64 0,.int .i64 0],.int .i64 0,.int .i64 110]):=ae rfl;generalize gH (none)=OUT at HO ⊢;have jN:Hid ((s.extract 1 s.size).size<9223372036854775807):=ae (aS _ _ hsz h63);have z1:((K:Int) == 0)=false:=beq_eq_false_iff_ne.2 (by omega);have hy:=fun (w:World)=>jo (s.extract 1 s.size) (by have:=fu.out;omega) w (P:=Tryz.prog) 9 Tryz.underlying9;by_cases z2:1<K
 ·have z3:decide ((K:Int) > 1)=true:=decide_eq_true (Int.ofNat_lt.2 z2);have z4:(bt (s.extract 1 s.size) 0 == 48)=false:=beq_eq_false_iff_ne.2 (fun h=>h2 ⟨z2,h⟩);clear h2;clear hc hK fo h1 hsz;go_enter Tryz.func114,Tryz.ntmps114;go_wp2;generalize s.extract 1 s.size=d at *;go_loopw [7,8] (fun n l w'=>∃k:Nat,w'=(wA w).iter d k/\n=.int .i64 (bE d (-1) k 0 0)/\l=.int .i64 k/\k<=K) (fun _ _ w'=>d.size-w'.iterPos (w.heap.size+1))
  case atStart=>exact ⟨0,rfl,rfl,rfl,Nat.zero_le _⟩
  case round =>
   obtain ⟨k,rfl,rfl,rfl,hk⟩:=hrel;by_cases df:k<K
   ·have hd:=iZ (HA.out k df);have hp:k<d.size:=by have:=fu.out;omega
    have hnx:∀ty,(Instr.next (.pointer (some ⟨w.heap.size+1,0,none⟩)) true ty).run Tryz.prog ((wA w).iter d k)=_:=fun ty=>iK w d k hp (by omega) ty;have HD:=ae (fT (bt d k) ((wA w).iter d (k+1)));rw [HA.out k df] at HD;have hb:=lC d (-1) (by decide) k fun j hj=>HA.out j (by omega);have hs:=mh d (-1) k 0 0;rw [Nat.zero_add] at hs;have HJ:=ae (lD (bE d (-1) k 0 0) ((wA w).iter d (k+1)) (by omega) (by omega));have hwl:wrap64 ((k:Int)+1)=((k+1:Nat):Int):=by have:=jN.out;unfold wrap64;omega
    obtain ⟨V',hV'⟩:∃V',V'=bE d (-1) (k+1) 0 0:=⟨_,rfl⟩;rw [<- hV'] at hs;have fC:=ae hV';clear hV' HF;generalize bE d (-1) k 0 0=V at *;generalize bt d k=c at *;cases hi:dh V with
    | true =>
     rw [hi,if_pos rfl] at hs;rw [hi] at HJ;have hw1:wrap64 (V*10)=V*10:=by unfold wrap64;omega
     have hw2:IntKind.i32.wrap (c-48)=c-48:=by rw [IntKind.wrap_i32];omega
     have qj:wrap32 (c-48)=c-48:=by unfold wrap32;omega
     have hw3:wrap64 ((-1)*(c-48))=(-1)*(c-48):=by unfold wrap64;omega
     have hw4:wrap64 (V*10+(-1)*(c-48))=V':=by rw [hs];unfold wrap64;omega
     have fQ:=ae hw4;clear hd hb hs;go_wp2_with fail;refine HD.out.mono ?_;rintro e u ⟨rfl,rfl⟩;go_wp2_with fail;refine HJ.out.mono ?_;rintro e u ⟨rfl,rfl⟩;go_wp2;go_roundw
     case rel=>exact ⟨k+1,rfl,by rw [<- fC.out,<- fQ.out];first|rfl|(congr 1;done)|(congr 1;unfold wrap64;omega),by first|rfl|(congr 1),df⟩
     case measure=>rw [dS,dS];omega
    | false =>
     rw [hi,if_neg (by decide)] at hs;rw [hi] at HJ;have HS:=ae hs;clear hd hb hs;go_wp2_with fail;refine HD.out.mono ?_;rintro e u ⟨rfl,rfl⟩;go_wp2_with fail;refine HJ.out.mono ?_;rintro e u ⟨rfl,rfl⟩;go_wp2;go_roundw
     case rel=>exact ⟨k+1,rfl,by rw [<- fC.out,HS.out],by first|rfl|(congr 1),df⟩
     case measure=>rw [dS,dS];omega
   ·obtain rfl:k=K:=by omega
    have fD:=ae (show bE d (-1) k 0 0=PV from HF.out);rw [fD.out];clear fD HF;by_cases hp:k<d.size
    ·have key:∃(wd:Nat) (c:Int),(∀ty,(Instr.next (.pointer (some ⟨w.heap.size+1,0,none⟩)) true ty).run Tryz.prog ((wA w).iter d k)=.ok (.tuple #[.bool true,.int .i64 k,.int .i32 c]) ((wA w).iter d (k+wd)))/\dg c=false:=by
      by_cases hb:bt d k<128
      ·exact ⟨1,bt d k,fun ty=>iK w d k hp hb ty,HN.out hp⟩
      ·exact ⟨_,_,fun ty=>oz w d k hp ty,nK (mG d k hp hb).1⟩
     obtain ⟨wd,c,hnx,fe⟩:=key;have HD:=ae (fT c ((wA w).iter d (k+wd)));rw [fe] at HD;clear fe HN HA;go_wp2_with fail;refine HD.out.mono ?_;rintro e u ⟨rfl,rfl⟩;obtain ⟨W2,aX,hth,z5,z6,z7,z8,hbl⟩:=((An.start w).on (gG (wA w) d (k+wd))).put (.int .i64 0) (.string ⟨#[]⟩) (.int .i64 0) (.int .i64 0);have HW2:=ae aX;have ay:=ae hth;have bW:=ae hbl;clear aX hth hbl;go_wp2_with fail;refine (HI.out _).mono ?_;rintro e u ⟨rfl,rfl⟩;go_wp2_with (refine wpList_store_mid rfl 47 (.tmp 2) (.tmp 53) rfl w.heap.size 0 #[.int .i64 0,.string ⟨#[]⟩,.int .i64 0,.int .i64 0] rfl rfl ay.out eQ (by simp [Value.oneCell']) ?_;rw [HW2.out]);refine bodyPost_ret (v:=.tuple #[.agg #[.int .i64 0,.string ⟨#[]⟩,.int .i64 0,.int .i64 0],.int .i64 0,.int .i64 110]) (by simp [results,Tryz.results114,go_sem,z5,z6,z7,z8]) rfl ⟨congrArg _ HO.out.symm,bW.out⟩
    ·have hnx:∀ty,(Instr.next (.pointer (some ⟨w.heap.size+1,0,none⟩)) true ty).run Tryz.prog ((wA w).iter d k)=_:=fun ty=>oF w d k hp ty;clear HN HA;obtain ⟨W2,aX,hth,z5,z6,z7,z8,hbl⟩:=((An.start w).on (gG (wA w) d k)).put (.int .i64 0) (.string ⟨#[]⟩) (.int .i64 0) (.int .i64 0);have HW2:=ae aX;have ay:=ae hth;have bW:=ae hbl;clear aX hth hbl;go_wp2_with fail;refine (HI.out _).mono ?_;rintro e u ⟨rfl,rfl⟩;go_wp2_with (refine wpList_store_mid rfl 47 (.tmp 2) (.tmp 53) rfl w.heap.size 0 #[.int .i64 0,.string ⟨#[]⟩,.int .i64 0,.int .i64 0] rfl rfl ay.out eQ (by simp [Value.oneCell']) ?_;rw [HW2.out]);refine bodyPost_ret (v:=.tuple #[.agg #[.int .i64 0,.string ⟨#[]⟩,.int .i64 0,.int .i64 0],.int .i64 0,.int .i64 110]) (by simp [results,Tryz.results114,go_sem,z5,z6,z7,z8]) rfl ⟨congrArg _ HO.out.symm,bW.out⟩
 ·have z3:decide ((K:Int) > 1)=false:=decide_eq_false (fun h=>z2 (Int.ofNat_lt.1 h));clear h2;clear hc hK fo h1 hsz;go_enter Tryz.func114,Tryz.ntmps114;go_wp2;generalize s.extract 1 s.size=d at *;go_loopw [7,8] (fun n l w'=>∃k:Nat,w'=(wA w).iter d k/\n=.int .i64 (bE d (-1) k 0 0)/\l=.int .i64 k/\k<=K) (fun _ _ w'=>d.size-w'.iterPos (w.heap.size+1))
  case atStart=>exact ⟨0,rfl,rfl,rfl,Nat.zero_le _⟩
  case round =>
   obtain ⟨k,rfl,rfl,rfl,hk⟩:=hrel;by_cases df:k<K
   ·have hd:=iZ (HA.out k df);have hp:k<d.size:=by have:=fu.out;omega
    have hnx:∀ty,(Instr.next (.pointer (some ⟨w.heap.size+1,0,none⟩)) true ty).run Tryz.prog ((wA w).iter d k)=_:=fun ty=>iK w d k hp (by omega) ty;have HD:=ae (fT (bt d k) ((wA w).iter d (k+1)));rw [HA.out k df] at HD;have hb:=lC d (-1) (by decide) k fun j hj=>HA.out j (by omega);have hs:=mh d (-1) k 0 0;rw [Nat.zero_add] at hs;have HJ:=ae (lD (bE d (-1) k 0 0) ((wA w).iter d (k+1)) (by omega) (by omega));have hwl:wrap64 ((k:Int)+1)=((k+1:Nat):Int):=by have:=jN.out;unfold wrap64;omega
    obtain ⟨V',hV'⟩:∃V',V'=bE d (-1) (k+1) 0 0:=⟨_,rfl⟩;rw [<- hV'] at hs;have fC:=ae hV';clear hV' HF;generalize bE d (-1) k 0 0=V at *;generalize bt d k=c at *;cases hi:dh V with
    | true =>
     rw [hi,if_pos rfl] at hs;rw [hi] at HJ;have hw1:wrap64 (V*10)=V*10:=by unfold wrap64;omega
     have hw2:IntKind.i32.wrap (c-48)=c-48:=by rw [IntKind.wrap_i32];omega
     have qj:wrap32 (c-48)=c-48:=by unfold wrap32;omega
     have hw3:wrap64 ((-1)*(c-48))=(-1)*(c-48):=by unfold wrap64;omega
     have hw4:wrap64 (V*10+(-1)*(c-48))=V':=by rw [hs];unfold wrap64;omega
     have fQ:=ae hw4;clear hd hb hs;go_wp2_with fail;refine HD.out.mono ?_;rintro e u ⟨rfl,rfl⟩;go_wp2_with fail;refine HJ.out.mono ?_;rintro e u ⟨rfl,rfl⟩;go_wp2;go_roundw
     case rel=>exact ⟨k+1,rfl,by rw [<- fC.out,<- fQ.out];first|rfl|(congr 1;done)|(congr 1;unfold wrap64;omega),by first|rfl|(congr 1),df⟩
     case measure=>rw [dS,dS];omega
    | false =>
     rw [hi,if_neg (by decide)] at hs;rw [hi] at HJ;have HS:=ae hs;clear hd hb hs;go_wp2_with fail;refine HD.out.mono ?_;rintro e u ⟨rfl,rfl⟩;go_wp2_with fail;refine HJ.out.mono ?_;rintro e u ⟨rfl,rfl⟩;go_wp2;go_roundw
     case rel=>exact ⟨k+1,rfl,by rw [<- fC.out,HS.out],by first|rfl|(congr 1),df⟩
     case measure=>rw [dS,dS];omega
   ·obtain rfl:k=K:=by omega
    have fD:=ae (show bE d (-1) k 0 0=PV from HF.out);rw [fD.out];clear fD HF;by_cases hp:k<d.size
    ·have key:∃(wd:Nat) (c:Int),(∀ty,(Instr.next (.pointer (some ⟨w.heap.size+1,0,none⟩)) true ty).run Tryz.prog ((wA w).iter d k)=.ok (.tuple #[.bool true,.int .i64 k,.int .i32 c]) ((wA w).iter d (k+wd)))/\dg c=false:=by
      by_cases hb:bt d k<128
      ·exact ⟨1,bt d k,fun ty=>iK w d k hp hb ty,HN.out hp⟩
      ·exact ⟨_,_,fun ty=>oz w d k hp ty,nK (mG d k hp hb).1⟩
     obtain ⟨wd,c,hnx,fe⟩:=key;have HD:=ae (fT c ((wA w).iter d (k+wd)));rw [fe] at HD;clear fe HN HA;go_wp2_with fail;refine HD.out.mono ?_;rintro e u ⟨rfl,rfl⟩;obtain ⟨W2,aX,hth,z5,z6,z7,z8,hbl⟩:=((An.start w).on (gG (wA w) d (k+wd))).put (.int .i64 0) (.string ⟨#[]⟩) (.int .i64 0) (.int .i64 0);have HW2:=ae aX;have ay:=ae hth;have bW:=ae hbl;clear aX hth hbl;go_wp2_with fail;refine (HI.out _).mono ?_;rintro e u ⟨rfl,rfl⟩;go_wp2_with (refine wpList_store_mid rfl 47 (.tmp 2) (.tmp 53) rfl w.heap.size 0 #[.int .i64 0,.string ⟨#[]⟩,.int .i64 0,.int .i64 0] rfl rfl ay.out eQ (by simp [Value.oneCell']) ?_;rw [HW2.out]);refine bodyPost_ret (v:=.tuple #[.agg #[.int .i64 0,.string ⟨#[]⟩,.int .i64 0,.int .i64 0],.int .i64 0,.int .i64 110]) (by simp [results,Tryz.results114,go_sem,z5,z6,z7,z8]) rfl ⟨congrArg _ HO.out.symm,bW.out⟩
    ·have hnx:∀ty,(Instr.next (.pointer (some ⟨w.heap.size+1,0,none⟩)) true ty).run Tryz.prog ((wA w).iter d k)=_:=fun ty=>oF w d k hp ty;clear HN HA;obtain ⟨W2,aX,hth,z5,z6,z7,z8,hbl⟩:=((An.start w).on (gG (wA w) d k)).put (.int .i64 0) (.string ⟨#[]⟩) (.int .i64 0) (.int .i64 0);have HW2:=ae aX;have ay:=ae hth;have bW:=ae hbl;clear aX hth hbl;go_wp2_with fail;refine (HI.out _).mono ?_;rintro e u ⟨rfl,rfl⟩;go_wp2_with (refine wpList_store_mid rfl 47 (.tmp 2) (.tmp 53) rfl w.heap.size 0 #[.int .i64 0,.string ⟨#[]⟩,.int .i64 0,.int .i64 0] rfl rfl ay.out eQ (by simp [Value.oneCell']) ?_;rw [HW2.out]);refine bodyPost_ret (v:=.tuple #[.agg #[.int .i64 0,.string ⟨#[]⟩,.int .i64 0,.int .i64 0],.int .i64 0,.int .i64 110]) (by simp [results,Tryz.results114,go_sem,z5,z6,z7,z8]) rfl ⟨congrArg _ HO.out.symm,bW.out⟩
theorem aam (s:ByteArray) (h0:0<s.size) (h63:s.size<9223372036854775807) (hc:bt s 0≠126) (h1:0<en s dg 0) (h2:¬ (1<en s dg 0/\bt s 0=48)) (h3:dh (bE s 1 (en s dg 0) 0 0)=true) (w:World):Calls Tryz.prog 114 #[.string s] w fun e w'=>e=.returned (gH (some (bE s 1 (en s dg 0) 0 0,en s dg 0)))/\Below w.heap.size w w':=by
 have hx:=fun (w:World)=>jo s h0 w (P:=Tryz.prog) 9 Tryz.underlying9;have q0:(bt s 0 == 126)=false:=beq_eq_false_iff_ne.2 hc;have HA:=ae (fun j (h:j<en s dg 0)=>mY s dg (Nat.zero_le j) h);have fu:=ae (jl s dg (Nat.zero_le _));have HN:=ae (qL s dg (i:=0));obtain ⟨K,hK⟩:∃K,en s dg 0=K:=⟨_,rfl⟩;obtain ⟨PV,fo⟩:∃PV,bE s 1 K 0 0=PV:=⟨_,rfl⟩;have HF:=ae fo;rw [hK,fo] at h3;rw [hK,fo];rw [hK] at HA fu HN h1 h2;have iH:=ae (lC s 1 (by decide) K fun j hj=>HA.out j hj);rw [fo] at iH;have HI:=ae (fun w=>lD PV w (by have:=iH.out;omega) (by have:=iH.out;omega));rw [h3] at HI;have HO:Hid (gH (some (PV,K))=.tuple #[.agg #[.int .i64 4,.string ⟨#[]⟩,.int .i64 PV,.int .i64 0],.int .i64 (K:Nat),.int .i64 0]):=ae rfl;generalize gH (some (PV,K))=OUT at HO ⊢;have jN:Hid (s.size<9223372036854775807):=ae (h63);have z1:((K:Int) == 0)=false:=beq_eq_false_iff_ne.2 (by omega);have hy:=fun (w:World)=>jo s (by have:=fu.out;omega) w (P:=Tryz.prog) 9 Tryz.underlying9;have hwz:wrap64 ((s.size:Int)-(s.size:Int))=0:=by unfold wrap64;omega
 have hwe:wrap64 (0+(K:Int))=(K:Int):=by have:=fu.out;unfold wrap64;omega
 have hwf:wrap64 (K:Int)=(K:Int):=by have:=fu.out;unfold wrap64;omega
 by_cases z2:1<K
 ·have z3:decide ((K:Int) > 1)=true:=decide_eq_true (Int.ofNat_lt.2 z2);have z4:(bt s 0 == 48)=false:=beq_eq_false_iff_ne.2 (fun h=>h2 ⟨z2,h⟩);clear h2;clear hc hK fo h1;obtain ⟨d,hd⟩:∃d,d=s:=⟨_,rfl⟩;subst hd;go_enter Tryz.func114,Tryz.ntmps114;go_wp2;go_loopw [7,8] (fun n l w'=>∃k:Nat,w'=(wA w).iter d k/\n=.int .i64 (bE d 1 k 0 0)/\l=.int .i64 k/\k<=K) (fun _ _ w'=>d.size-w'.iterPos (w.heap.size+1))
  case atStart=>exact ⟨0,rfl,rfl,rfl,Nat.zero_le _⟩
  case round =>
   obtain ⟨k,rfl,rfl,rfl,hk⟩:=hrel;by_cases df:k<K
   ·have hd:=iZ (HA.out k df);have hp:k<d.size:=by have:=fu.out;omega
    have hnx:∀ty,(Instr.next (.pointer (some ⟨w.heap.size+1,0,none⟩)) true ty).run Tryz.prog ((wA w).iter d k)=_:=fun ty=>iK w d k hp (by omega) ty;have HD:=ae (fT (bt d k) ((wA w).iter d (k+1)));rw [HA.out k df] at HD;have hb:=lC d 1 (by decide) k fun j hj=>HA.out j (by omega);have hs:=mh d 1 k 0 0;rw [Nat.zero_add] at hs;have HJ:=ae (lD (bE d 1 k 0 0) ((wA w).iter d (k+1)) (by omega) (by omega));have hwl:wrap64 ((k:Int)+1)=((k+1:Nat):Int):=by have:=jN.out;unfold wrap64;omega
    obtain ⟨V',hV'⟩:∃V',V'=bE d 1 (k+1) 0 0:=⟨_,rfl⟩;rw [<- hV'] at hs;have fC:=ae hV';clear hV' HF;generalize bE d 1 k 0 0=V at *;generalize bt d k=c at *;cases hi:dh V with
    | true =>
     rw [hi,if_pos rfl] at hs;rw [hi] at HJ;have hw1:wrap64 (V*10)=V*10:=by unfold wrap64;omega
     have hw2:IntKind.i32.wrap (c-48)=c-48:=by rw [IntKind.wrap_i32];omega
     have qj:wrap32 (c-48)=c-48:=by unfold wrap32;omega
     have hw3:wrap64 (1*(c-48))=1*(c-48):=by unfold wrap64;omega
     have hw4:wrap64 (V*10+1*(c-48))=V':=by rw [hs];unfold wrap64;omega
     have fQ:=ae hw4;clear hd hb hs;go_wp2_with fail;refine HD.out.mono ?_;rintro e u ⟨rfl,rfl⟩;go_wp2_with fail;refine HJ.out.mono ?_;rintro e u ⟨rfl,rfl⟩;go_wp2;go_roundw
     case rel=>exact ⟨k+1,rfl,by rw [<- fC.out,<- fQ.out];first|rfl|(congr 1;done)|(congr 1;unfold wrap64;omega),by first|rfl|(congr 1),df⟩
     case measure=>rw [dS,dS];omega
    | false =>
     rw [hi,if_neg (by decide)] at hs;rw [hi] at HJ;have HS:=ae hs;clear hd hb hs;go_wp2_with fail;refine HD.out.mono ?_;rintro e u ⟨rfl,rfl⟩;go_wp2_with fail;refine HJ.out.mono ?_;rintro e u ⟨rfl,rfl⟩;go_wp2;go_roundw
     case rel=>exact ⟨k+1,rfl,by rw [<- fC.out,HS.out],by first|rfl|(congr 1),df⟩
     case measure=>rw [dS,dS];omega
   ·obtain rfl:k=K:=by omega
    have fD:=ae (show bE d 1 k 0 0=PV from HF.out);rw [fD.out];clear fD HF;by_cases hp:k<d.size
    ·have key:∃(wd:Nat) (c:Int),(∀ty,(Instr.next (.pointer (some ⟨w.heap.size+1,0,none⟩)) true ty).run Tryz.prog ((wA w).iter d k)=.ok (.tuple #[.bool true,.int .i64 k,.int .i32 c]) ((wA w).iter d (k+wd)))/\dg c=false:=by
      by_cases hb:bt d k<128
      ·exact ⟨1,bt d k,fun ty=>iK w d k hp hb ty,HN.out hp⟩
      ·exact ⟨_,_,fun ty=>oz w d k hp ty,nK (mG d k hp hb).1⟩
     obtain ⟨wd,c,hnx,fe⟩:=key;have HD:=ae (fT c ((wA w).iter d (k+wd)));rw [fe] at HD;clear fe HN HA;go_wp2_with fail;refine HD.out.mono ?_;rintro e u ⟨rfl,rfl⟩;obtain ⟨W2,aX,hth,z5,z6,z7,z8,hbl⟩:=((An.start w).on (gG (wA w) d (k+wd))).put (.int .i64 4) (.string ⟨#[]⟩) (.int .i64 PV) (.int .i64 0);have HW2:=ae aX;have ay:=ae hth;have bW:=ae hbl;clear aX hth hbl;go_wp2_with fail;refine (HI.out _).mono ?_;rintro e u ⟨rfl,rfl⟩;go_wp2_with (refine wpList_store_mid rfl 47 (.tmp 2) (.tmp 55) rfl w.heap.size 0 #[.int .i64 4,.string ⟨#[]⟩,.int .i64 PV,.int .i64 0] rfl rfl ay.out eQ (by simp [Value.oneCell']) ?_;rw [HW2.out]);refine bodyPost_ret (v:=.tuple #[.agg #[.int .i64 4,.string ⟨#[]⟩,.int .i64 PV,.int .i64 0],.int .i64 (k:Nat),.int .i64 0]) (by simp [results,Tryz.results114,go_sem,z5,z6,z7,z8]) rfl ⟨congrArg _ HO.out.symm,bW.out⟩
    ·have hnx:∀ty,(Instr.next (.pointer (some ⟨w.heap.size+1,0,none⟩)) true ty).run Tryz.prog ((wA w).iter d k)=_:=fun ty=>oF w d k hp ty;clear HN HA;obtain ⟨W2,aX,hth,z5,z6,z7,z8,hbl⟩:=((An.start w).on (gG (wA w) d k)).put (.int .i64 4) (.string ⟨#[]⟩) (.int .i64 PV) (.int .i64 0);have HW2:=ae aX;have ay:=ae hth;have bW:=ae hbl;clear aX hth hbl;go_wp2_with fail;refine (HI.out _).mono ?_;rintro e u ⟨rfl,rfl⟩;go_wp2_with (refine wpList_store_mid rfl 47 (.tmp 2) (.tmp 55) rfl w.heap.size 0 #[.int .i64 4,.string ⟨#[]⟩,.int .i64 PV,.int .i64 0] rfl rfl ay.out eQ (by simp [Value.oneCell']) ?_;rw [HW2.out]);refine bodyPost_ret (v:=.tuple #[.agg #[.int .i64 4,.string ⟨#[]⟩,.int .i64 PV,.int .i64 0],.int .i64 (k:Nat),.int .i64 0]) (by simp [results,Tryz.results114,go_sem,z5,z6,z7,z8]) rfl ⟨congrArg _ HO.out.symm,bW.out⟩
 ·have z3:decide ((K:Int) > 1)=false:=decide_eq_false (fun h=>z2 (Int.ofNat_lt.1 h));clear h2;clear hc hK fo h1;obtain ⟨d,hd⟩:∃d,d=s:=⟨_,rfl⟩;subst hd;go_enter Tryz.func114,Tryz.ntmps114;go_wp2;go_loopw [7,8] (fun n l w'=>∃k:Nat,w'=(wA w).iter d k/\n=.int .i64 (bE d 1 k 0 0)/\l=.int .i64 k/\k<=K) (fun _ _ w'=>d.size-w'.iterPos (w.heap.size+1))
  case atStart=>exact ⟨0,rfl,rfl,rfl,Nat.zero_le _⟩
  case round =>
   obtain ⟨k,rfl,rfl,rfl,hk⟩:=hrel;by_cases df:k<K
   ·have hd:=iZ (HA.out k df);have hp:k<d.size:=by have:=fu.out;omega
    have hnx:∀ty,(Instr.next (.pointer (some ⟨w.heap.size+1,0,none⟩)) true ty).run Tryz.prog ((wA w).iter d k)=_:=fun ty=>iK w d k hp (by omega) ty;have HD:=ae (fT (bt d k) ((wA w).iter d (k+1)));rw [HA.out k df] at HD;have hb:=lC d 1 (by decide) k fun j hj=>HA.out j (by omega);have hs:=mh d 1 k 0 0;rw [Nat.zero_add] at hs;have HJ:=ae (lD (bE d 1 k 0 0) ((wA w).iter d (k+1)) (by omega) (by omega));have hwl:wrap64 ((k:Int)+1)=((k+1:Nat):Int):=by have:=jN.out;unfold wrap64;omega
    obtain ⟨V',hV'⟩:∃V',V'=bE d 1 (k+1) 0 0:=⟨_,rfl⟩;rw [<- hV'] at hs;have fC:=ae hV';clear hV' HF;generalize bE d 1 k 0 0=V at *;generalize bt d k=c at *;cases hi:dh V with
    | true =>
     rw [hi,if_pos rfl] at hs;rw [hi] at HJ;have hw1:wrap64 (V*10)=V*10:=by unfold wrap64;omega
     have hw2:IntKind.i32.wrap (c-48)=c-48:=by rw [IntKind.wrap_i32];omega
     have qj:wrap32 (c-48)=c-48:=by unfold wrap32;omega
     have hw3:wrap64 (1*(c-48))=1*(c-48):=by unfold wrap64;omega
     have hw4:wrap64 (V*10+1*(c-48))=V':=by rw [hs];unfold wrap64;omega
     have fQ:=ae hw4;clear hd hb hs;go_wp2_with fail;refine HD.out.mono ?_;rintro e u ⟨rfl,rfl⟩;go_wp2_with fail;refine HJ.out.mono ?_;rintro e u ⟨rfl,rfl⟩;go_wp2;go_roundw
     case rel=>exact ⟨k+1,rfl,by rw [<- fC.out,<- fQ.out];first|rfl|(congr 1;done)|(congr 1;unfold wrap64;omega),by first|rfl|(congr 1),df⟩
     case measure=>rw [dS,dS];omega
    | false =>
     rw [hi,if_neg (by decide)] at hs;rw [hi] at HJ;have HS:=ae hs;clear hd hb hs;go_wp2_with fail;refine HD.out.mono ?_;rintro e u ⟨rfl,rfl⟩;go_wp2_with fail;refine HJ.out.mono ?_;rintro e u ⟨rfl,rfl⟩;go_wp2;go_roundw
     case rel=>exact ⟨k+1,rfl,by rw [<- fC.out,HS.out],by first|rfl|(congr 1),df⟩
     case measure=>rw [dS,dS];omega
   ·obtain rfl:k=K:=by omega
    have fD:=ae (show bE d 1 k 0 0=PV from HF.out);rw [fD.out];clear fD HF;by_cases hp:k<d.size
    ·have key:∃(wd:Nat) (c:Int),(∀ty,(Instr.next (.pointer (some ⟨w.heap.size+1,0,none⟩)) true ty).run Tryz.prog ((wA w).iter d k)=.ok (.tuple #[.bool true,.int .i64 k,.int .i32 c]) ((wA w).iter d (k+wd)))/\dg c=false:=by
      by_cases hb:bt d k<128
      ·exact ⟨1,bt d k,fun ty=>iK w d k hp hb ty,HN.out hp⟩
      ·exact ⟨_,_,fun ty=>oz w d k hp ty,nK (mG d k hp hb).1⟩
     obtain ⟨wd,c,hnx,fe⟩:=key;have HD:=ae (fT c ((wA w).iter d (k+wd)));rw [fe] at HD;clear fe HN HA;go_wp2_with fail;refine HD.out.mono ?_;rintro e u ⟨rfl,rfl⟩;obtain ⟨W2,aX,hth,z5,z6,z7,z8,hbl⟩:=((An.start w).on (gG (wA w) d (k+wd))).put (.int .i64 4) (.string ⟨#[]⟩) (.int .i64 PV) (.int .i64 0);have HW2:=ae aX;have ay:=ae hth;have bW:=ae hbl;clear aX hth hbl;go_wp2_with fail;refine (HI.out _).mono ?_;rintro e u ⟨rfl,rfl⟩;go_wp2_with (refine wpList_store_mid rfl 47 (.tmp 2) (.tmp 55) rfl w.heap.size 0 #[.int .i64 4,.string ⟨#[]⟩,.int .i64 PV,.int .i64 0] rfl rfl ay.out eQ (by simp [Value.oneCell']) ?_;rw [HW2.out]);refine bodyPost_ret (v:=.tuple #[.agg #[.int .i64 4,.string ⟨#[]⟩,.int .i64 PV,.int .i64 0],.int .i64 (k:Nat),.int .i64 0]) (by simp [results,Tryz.results114,go_sem,z5,z6,z7,z8]) rfl ⟨congrArg _ HO.out.symm,bW.out⟩
    ·have hnx:∀ty,(Instr.next (.pointer (some ⟨w.heap.size+1,0,none⟩)) true ty).run Tryz.prog ((wA w).iter d k)=_:=fun ty=>oF w d k hp ty;clear HN HA;obtain ⟨W2,aX,hth,z5,z6,z7,z8,hbl⟩:=((An.start w).on (gG (wA w) d k)).put (.int .i64 4) (.string ⟨#[]⟩) (.int .i64 PV) (.int .i64 0);have HW2:=ae aX;have ay:=ae hth;have bW:=ae hbl;clear aX hth hbl;go_wp2_with fail;refine (HI.out _).mono ?_;rintro e u ⟨rfl,rfl⟩;go_wp2_with (refine wpList_store_mid rfl 47 (.tmp 2) (.tmp 55) rfl w.heap.size 0 #[.int .i64 4,.string ⟨#[]⟩,.int .i64 PV,.int .i64 0] rfl rfl ay.out eQ (by simp [Value.oneCell']) ?_;rw [HW2.out]);refine bodyPost_ret (v:=.tuple #[.agg #[.int .i64 4,.string ⟨#[]⟩,.int .i64 PV,.int .i64 0],.int .i64 (k:Nat),.int .i64 0]) (by simp [results,Tryz.results114,go_sem,z5,z6,z7,z8]) rfl ⟨congrArg _ HO.out.symm,bW.out⟩
theorem aan (s:ByteArray) (h0:0<s.size) (h63:s.size<9223372036854775807) (hc:bt s 0=126) (h1:0<en (s.extract 1 s.size) dg 0) (h2:¬ (1<en (s.extract 1 s.size) dg 0/\bt (s.extract 1 s.size) 0=48)) (h3:dh (bE (s.extract 1 s.size) (-1) (en (s.extract 1 s.size) dg 0) 0 0)=true) (w:World):Calls Tryz.prog 114 #[.string s] w fun e w'=>e=.returned (gH (some (bE (s.extract 1 s.size) (-1) (en (s.extract 1 s.size) dg 0) 0 0,1+en (s.extract 1 s.size) dg 0)))/\Below w.heap.size w w':=by
 have hx:=fun (w:World)=>jo s h0 w (P:=Tryz.prog) 9 Tryz.underlying9;have q0:(bt s 0 == 126)=true:=beq_iff_eq.2 hc;have hsz:(s.extract 1 s.size).size=s.size-1:=nV s 1;have HA:=ae (fun j (h:j<en (s.extract 1 s.size) dg 0)=>mY (s.extract 1 s.size) dg (Nat.zero_le j) h);have fu:=ae (jl (s.extract 1 s.size) dg (Nat.zero_le _));have HN:=ae (qL (s.extract 1 s.size) dg (i:=0));obtain ⟨K,hK⟩:∃K,en (s.extract 1 s.size) dg 0=K:=⟨_,rfl⟩;obtain ⟨PV,fo⟩:∃PV,bE (s.extract 1 s.size) (-1) K 0 0=PV:=⟨_,rfl⟩;have HF:=ae fo;rw [hK,fo] at h3;obtain ⟨E,hE⟩:∃E:Nat,E=1+K:=⟨_,rfl⟩;rw [hK,fo,<- hE];rw [hK] at HA fu HN h1 h2;have iH:=ae (lC (s.extract 1 s.size) (-1) (by decide) K fun j hj=>HA.out j hj);rw [fo] at iH;have HI:=ae (fun w=>lD PV w (by have:=iH.out;omega) (by have:=iH.out;omega));rw [h3] at HI;have HO:Hid (gH (some (PV,E))=.tuple #[.agg #[.int .i64 4,.string ⟨#[]⟩,.int .i64 PV,.int .i64 0],.int .i64 (E:Nat),.int .i64 0]):=ae rfl;generalize gH (some (PV,E))=OUT at HO ⊢;have jN:Hid ((s.extract 1 s.size).size<9223372036854775807):=ae (aS _ _ hsz h63);have z1:((K:Int) == 0)=false:=beq_eq_false_iff_ne.2 (by omega);have hy:=fun (w:World)=>jo (s.extract 1 s.size) (by have:=fu.out;omega) w (P:=Tryz.prog) 9 Tryz.underlying9;obtain ⟨hwz,adu⟩:=aZ s.size _ hsz h0 h63;obtain ⟨hwe,adv,adw⟩:=aE K s.size _ E hsz h0 h63 fu.out hE;clear hE;by_cases z2:1<K
 ·have z3:decide ((K:Int) > 1)=true:=decide_eq_true (Int.ofNat_lt.2 z2);have z4:(bt (s.extract 1 s.size) 0 == 48)=false:=beq_eq_false_iff_ne.2 (fun h=>h2 ⟨z2,h⟩);clear h2;clear hc hK fo h1 hsz;go_enter Tryz.func114,Tryz.ntmps114;go_wp2;generalize s.extract 1 s.size=d at *;go_loopw [7,8] (fun n l w'=>∃k:Nat,w'=(wA w).iter d k/\n=.int .i64 (bE d (-1) k 0 0)/\l=.int .i64 k/\k<=K) (fun _ _ w'=>d.size-w'.iterPos (w.heap.size+1))
  case atStart=>exact ⟨0,rfl,rfl,rfl,Nat.zero_le _⟩
  case round =>
   obtain ⟨k,rfl,rfl,rfl,hk⟩:=hrel;by_cases df:k<K
   ·have hd:=iZ (HA.out k df);have hp:k<d.size:=by have:=fu.out;omega
    have hnx:∀ty,(Instr.next (.pointer (some ⟨w.heap.size+1,0,none⟩)) true ty).run Tryz.prog ((wA w).iter d k)=_:=fun ty=>iK w d k hp (by omega) ty;have HD:=ae (fT (bt d k) ((wA w).iter d (k+1)));rw [HA.out k df] at HD;have hb:=lC d (-1) (by decide) k fun j hj=>HA.out j (by omega);have hs:=mh d (-1) k 0 0;rw [Nat.zero_add] at hs;have HJ:=ae (lD (bE d (-1) k 0 0) ((wA w).iter d (k+1)) (by omega) (by omega));have hwl:wrap64 ((k:Int)+1)=((k+1:Nat):Int):=by have:=jN.out;unfold wrap64;omega
    obtain ⟨V',hV'⟩:∃V',V'=bE d (-1) (k+1) 0 0:=⟨_,rfl⟩;rw [<- hV'] at hs;have fC:=ae hV';clear hV' HF;generalize bE d (-1) k 0 0=V at *;generalize bt d k=c at *;cases hi:dh V with
    | true =>
     rw [hi,if_pos rfl] at hs;rw [hi] at HJ;have hw1:wrap64 (V*10)=V*10:=by unfold wrap64;omega
     have hw2:IntKind.i32.wrap (c-48)=c-48:=by rw [IntKind.wrap_i32];omega
     have qj:wrap32 (c-48)=c-48:=by unfold wrap32;omega
     have hw3:wrap64 ((-1)*(c-48))=(-1)*(c-48):=by unfold wrap64;omega
     have hw4:wrap64 (V*10+(-1)*(c-48))=V':=by rw [hs];unfold wrap64;omega
     have fQ:=ae hw4;clear hd hb hs;go_wp2_with fail;refine HD.out.mono ?_;rintro e u ⟨rfl,rfl⟩;go_wp2_with fail;refine HJ.out.mono ?_;rintro e u ⟨rfl,rfl⟩;go_wp2;go_roundw
     case rel=>exact ⟨k+1,rfl,by rw [<- fC.out,<- fQ.out];first|rfl|(congr 1;done)|(congr 1;unfold wrap64;omega),by first|rfl|(congr 1),df⟩
     case measure=>rw [dS,dS];omega
    | false =>
     rw [hi,if_neg (by decide)] at hs;rw [hi] at HJ;have HS:=ae hs;clear hd hb hs;go_wp2_with fail;refine HD.out.mono ?_;rintro e u ⟨rfl,rfl⟩;go_wp2_with fail;refine HJ.out.mono ?_;rintro e u ⟨rfl,rfl⟩;go_wp2;go_roundw
     case rel=>exact ⟨k+1,rfl,by rw [<- fC.out,HS.out],by first|rfl|(congr 1),df⟩
     case measure=>rw [dS,dS];omega
   ·obtain rfl:k=K:=by omega
    have fD:=ae (show bE d (-1) k 0 0=PV from HF.out);rw [fD.out];clear fD HF;by_cases hp:k<d.size
    ·have key:∃(wd:Nat) (c:Int),(∀ty,(Instr.next (.pointer (some ⟨w.heap.size+1,0,none⟩)) true ty).run Tryz.prog ((wA w).iter d k)=.ok (.tuple #[.bool true,.int .i64 k,.int .i32 c]) ((wA w).iter d (k+wd)))/\dg c=false:=by
      by_cases hb:bt d k<128
      ·exact ⟨1,bt d k,fun ty=>iK w d k hp hb ty,HN.out hp⟩
      ·exact ⟨_,_,fun ty=>oz w d k hp ty,nK (mG d k hp hb).1⟩
     obtain ⟨wd,c,hnx,fe⟩:=key;have HD:=ae (fT c ((wA w).iter d (k+wd)));rw [fe] at HD;clear fe HN HA;go_wp2_with fail;refine HD.out.mono ?_;rintro e u ⟨rfl,rfl⟩;obtain ⟨W2,aX,hth,z5,z6,z7,z8,hbl⟩:=((An.start w).on (gG (wA w) d (k+wd))).put (.int .i64 4) (.string ⟨#[]⟩) (.int .i64 PV) (.int .i64 0);have HW2:=ae aX;have ay:=ae hth;have bW:=ae hbl;clear aX hth hbl;go_wp2_with fail;refine (HI.out _).mono ?_;rintro e u ⟨rfl,rfl⟩;go_wp2_with (refine wpList_store_mid rfl 47 (.tmp 2) (.tmp 55) rfl w.heap.size 0 #[.int .i64 4,.string ⟨#[]⟩,.int .i64 PV,.int .i64 0] rfl rfl ay.out eQ (by simp [Value.oneCell']) ?_;rw [HW2.out]);refine bodyPost_ret (v:=.tuple #[.agg #[.int .i64 4,.string ⟨#[]⟩,.int .i64 PV,.int .i64 0],.int .i64 (E:Nat),.int .i64 0]) (by simp [results,Tryz.results114,go_sem,z5,z6,z7,z8]) rfl ⟨congrArg _ HO.out.symm,bW.out⟩
    ·have hnx:∀ty,(Instr.next (.pointer (some ⟨w.heap.size+1,0,none⟩)) true ty).run Tryz.prog ((wA w).iter d k)=_:=fun ty=>oF w d k hp ty;clear HN HA;obtain ⟨W2,aX,hth,z5,z6,z7,z8,hbl⟩:=((An.start w).on (gG (wA w) d k)).put (.int .i64 4) (.string ⟨#[]⟩) (.int .i64 PV) (.int .i64 0);have HW2:=ae aX;have ay:=ae hth;have bW:=ae hbl;clear aX hth hbl;go_wp2_with fail;refine (HI.out _).mono ?_;rintro e u ⟨rfl,rfl⟩;go_wp2_with (refine wpList_store_mid rfl 47 (.tmp 2) (.tmp 55) rfl w.heap.size 0 #[.int .i64 4,.string ⟨#[]⟩,.int .i64 PV,.int .i64 0] rfl rfl ay.out eQ (by simp [Value.oneCell']) ?_;rw [HW2.out]);refine bodyPost_ret (v:=.tuple #[.agg #[.int .i64 4,.string ⟨#[]⟩,.int .i64 PV,.int .i64 0],.int .i64 (E:Nat),.int .i64 0]) (by simp [results,Tryz.results114,go_sem,z5,z6,z7,z8]) rfl ⟨congrArg _ HO.out.symm,bW.out⟩
 ·have z3:decide ((K:Int) > 1)=false:=decide_eq_false (fun h=>z2 (Int.ofNat_lt.1 h));clear h2;clear hc hK fo h1 hsz;go_enter Tryz.func114,Tryz.ntmps114;go_wp2;generalize s.extract 1 s.size=d at *;go_loopw [7,8] (fun n l w'=>∃k:Nat,w'=(wA w).iter d k/\n=.int .i64 (bE d (-1) k 0 0)/\l=.int .i64 k/\k<=K) (fun _ _ w'=>d.size-w'.iterPos (w.heap.size+1))
  case atStart=>exact ⟨0,rfl,rfl,rfl,Nat.zero_le _⟩
  case round =>
   obtain ⟨k,rfl,rfl,rfl,hk⟩:=hrel;by_cases df:k<K
   ·have hd:=iZ (HA.out k df);have hp:k<d.size:=by have:=fu.out;omega
    have hnx:∀ty,(Instr.next (.pointer (some ⟨w.heap.size+1,0,none⟩)) true ty).run Tryz.prog ((wA w).iter d k)=_:=fun ty=>iK w d k hp (by omega) ty;have HD:=ae (fT (bt d k) ((wA w).iter d (k+1)));rw [HA.out k df] at HD;have hb:=lC d (-1) (by decide) k fun j hj=>HA.out j (by omega);have hs:=mh d (-1) k 0 0;rw [Nat.zero_add] at hs;have HJ:=ae (lD (bE d (-1) k 0 0) ((wA w).iter d (k+1)) (by omega) (by omega));have hwl:wrap64 ((k:Int)+1)=((k+1:Nat):Int):=by have:=jN.out;unfold wrap64;omega
    obtain ⟨V',hV'⟩:∃V',V'=bE d (-1) (k+1) 0 0:=⟨_,rfl⟩;rw [<- hV'] at hs;have fC:=ae hV';clear hV' HF;generalize bE d (-1) k 0 0=V at *;generalize bt d k=c at *;cases hi:dh V with
    | true =>
     rw [hi,if_pos rfl] at hs;rw [hi] at HJ;have hw1:wrap64 (V*10)=V*10:=by unfold wrap64;omega
     have hw2:IntKind.i32.wrap (c-48)=c-48:=by rw [IntKind.wrap_i32];omega
     have qj:wrap32 (c-48)=c-48:=by unfold wrap32;omega
     have hw3:wrap64 ((-1)*(c-48))=(-1)*(c-48):=by unfold wrap64;omega
     have hw4:wrap64 (V*10+(-1)*(c-48))=V':=by rw [hs];unfold wrap64;omega
     have fQ:=ae hw4;clear hd hb hs;go_wp2_with fail;refine HD.out.mono ?_;rintro e u ⟨rfl,rfl⟩;go_wp2_with fail;refine HJ.out.mono ?_;rintro e u ⟨rfl,rfl⟩;go_wp2;go_roundw
     case rel=>exact ⟨k+1,rfl,by rw [<- fC.out,<- fQ.out];first|rfl|(congr 1;done)|(congr 1;unfold wrap64;omega),by first|rfl|(congr 1),df⟩
     case measure=>rw [dS,dS];omega
    | false =>
     rw [hi,if_neg (by decide)] at hs;rw [hi] at HJ;have HS:=ae hs;clear hd hb hs;go_wp2_with fail;refine HD.out.mono ?_;rintro e u ⟨rfl,rfl⟩;go_wp2_with fail;refine HJ.out.mono ?_;rintro e u ⟨rfl,rfl⟩;go_wp2;go_roundw
     case rel=>exact ⟨k+1,rfl,by rw [<- fC.out,HS.out],by first|rfl|(congr 1),df⟩
     case measure=>rw [dS,dS];omega
   ·obtain rfl:k=K:=by omega
    have fD:=ae (show bE d (-1) k 0 0=PV from HF.out);rw [fD.out];clear fD HF;by_cases hp:k<d.size
    ·have key:∃(wd:Nat) (c:Int),(∀ty,(Instr.next (.pointer (some ⟨w.heap.size+1,0,none⟩)) true ty).run Tryz.prog ((wA w).iter d k)=.ok (.tuple #[.bool true,.int .i64 k,.int .i32 c]) ((wA w).iter d (k+wd)))/\dg c=false:=by
      by_cases hb:bt d k<128
      ·exact ⟨1,bt d k,fun ty=>iK w d k hp hb ty,HN.out hp⟩
      ·exact ⟨_,_,fun ty=>oz w d k hp ty,nK (mG d k hp hb).1⟩
     obtain ⟨wd,c,hnx,fe⟩:=key;have HD:=ae (fT c ((wA w).iter d (k+wd)));rw [fe] at HD;clear fe HN HA;go_wp2_with fail;refine HD.out.mono ?_;rintro e u ⟨rfl,rfl⟩;obtain ⟨W2,aX,hth,z5,z6,z7,z8,hbl⟩:=((An.start w).on (gG (wA w) d (k+wd))).put (.int .i64 4) (.string ⟨#[]⟩) (.int .i64 PV) (.int .i64 0);have HW2:=ae aX;have ay:=ae hth;have bW:=ae hbl;clear aX hth hbl;go_wp2_with fail;refine (HI.out _).mono ?_;rintro e u ⟨rfl,rfl⟩;go_wp2_with (refine wpList_store_mid rfl 47 (.tmp 2) (.tmp 55) rfl w.heap.size 0 #[.int .i64 4,.string ⟨#[]⟩,.int .i64 PV,.int .i64 0] rfl rfl ay.out eQ (by simp [Value.oneCell']) ?_;rw [HW2.out]);refine bodyPost_ret (v:=.tuple #[.agg #[.int .i64 4,.string ⟨#[]⟩,.int .i64 PV,.int .i64 0],.int .i64 (E:Nat),.int .i64 0]) (by simp [results,Tryz.results114,go_sem,z5,z6,z7,z8]) rfl ⟨congrArg _ HO.out.symm,bW.out⟩
    ·have hnx:∀ty,(Instr.next (.pointer (some ⟨w.heap.size+1,0,none⟩)) true ty).run Tryz.prog ((wA w).iter d k)=_:=fun ty=>oF w d k hp ty;clear HN HA;obtain ⟨W2,aX,hth,z5,z6,z7,z8,hbl⟩:=((An.start w).on (gG (wA w) d k)).put (.int .i64 4) (.string ⟨#[]⟩) (.int .i64 PV) (.int .i64 0);have HW2:=ae aX;have ay:=ae hth;have bW:=ae hbl;clear aX hth hbl;go_wp2_with fail;refine (HI.out _).mono ?_;rintro e u ⟨rfl,rfl⟩;go_wp2_with (refine wpList_store_mid rfl 47 (.tmp 2) (.tmp 55) rfl w.heap.size 0 #[.int .i64 4,.string ⟨#[]⟩,.int .i64 PV,.int .i64 0] rfl rfl ay.out eQ (by simp [Value.oneCell']) ?_;rw [HW2.out]);refine bodyPost_ret (v:=.tuple #[.agg #[.int .i64 4,.string ⟨#[]⟩,.int .i64 PV,.int .i64 0],.int .i64 (E:Nat),.int .i64 0]) (by simp [results,Tryz.results114,go_sem,z5,z6,z7,z8]) rfl ⟨congrArg _ HO.out.symm,bW.out⟩
theorem Ay (s:ByteArray):s.extract 0 s.size=s:=by simp
theorem QL (s:ByteArray) (h0:0<s.size) (h63:s.size<9223372036854775807) (w:World):Calls Tryz.prog 114 #[.string s] w fun e w'=>e=.returned (gH (num s 0 (if bt s 0=126 then 1 else 0)))/\Below w.heap.size w w':=by
 by_cases hc:bt s 0=126
 ·rw [if_pos hc,Dg s 0 1 h0,if_pos (by decide)];unfold Aq;by_cases h1:en (s.extract 1 s.size) dg 0=0
  ·rw [if_pos (.inl h1)];exact aah s h0 h63 hc h1 w
  ·by_cases h2:1<en (s.extract 1 s.size) dg 0/\bt (s.extract 1 s.size) 0=48
   ·rw [if_pos (.inr (.inl h2))];exact aaj s h0 h63 hc h2.1 h2.2 w
   ·cases h3:dh (bE (s.extract 1 s.size) (-1) (en (s.extract 1 s.size) dg 0) 0 0) with
    | false=>rw [if_pos (.inr (.inr rfl))];exact aal s h0 h63 hc (by omega) h2 h3 w
    | true=>rw [if_neg (by rintro (h|h|h);exact h1 h;exact h2 h;cases h)];exact aan s h0 h63 hc (by omega) h2 h3 w
 ·rw [if_neg hc,Dg s 0 0 (Nat.zero_le _),if_neg (by decide),Ay];unfold Aq;by_cases h1:en s dg 0=0
  ·rw [if_pos (.inl h1)];exact aag s h0 h63 hc h1 w
  ·by_cases h2:1<en s dg 0/\bt s 0=48
   ·rw [if_pos (.inr (.inl h2))];exact aai s h0 h63 hc h2.1 h2.2 w
   ·cases h3:dh (bE s 1 (en s dg 0) 0 0) with
    | false=>rw [if_pos (.inr (.inr rfl))];exact aak s h0 h63 hc (by omega) h2 h3 w
    | true=>rw [if_neg (by rintro (h|h|h);exact h1 h;exact h2 h;cases h)];simp only [Option.map,Nat.zero_add];exact aam s h0 h63 hc (by omega) h2 h3 w
end Go.Proofs.YtpaefhceiliaiaaGreatDoor
