/- Texts that the claim needs. -/
import Derived.Test.YtkdbgopgjbfhbaaGreatDoorQPW1
namespace Go.Proofs.YtkdbgopgjbfhbaaGreatDoor
open Go.RowKit Lx
set_option linter.unusedVariables false
set_option maxRecDepth 100000
set_option maxHeartbeats 8000000
namespace Lx
def iC:Option (Int × Nat)->Value
 | some (n,e)=>.tuple #[.agg #[.int .i64 4,.string ⟨#[]⟩,.int .i64 n,.int .i64 0],.int .i64 e,.int .i64 0]
 | none=>.tuple #[.agg #[.int .i64 0,.string ⟨#[]⟩,.int .i64 0,.int .i64 0],.int .i64 0,.int .i64 110]
theorem mX (d:ByteArray) (u:Int) (hu:u=1\/u=-1) (k:Nat) (hd:∀j,j<k->dg (bt d j)=true):-20000000000<=bK d u k 0 0/\bK d u k 0 0<=20000000000:=by
 induction k with
 | zero=>exact ⟨by show (-20000000000:Int)<=0;decide,by show (0:Int)<=20000000000;decide⟩
 | succ k ih =>
  have ih:=ih fun j hj=>hd j (by omega);have hb:=kv (hd k (by omega));rw [oJ,Nat.zero_add];generalize bK d u k 0 0=n at *;split
  ·rename_i h;unfold ez at h;rw [Bool.and_eq_true,decide_eq_true_eq,decide_eq_true_eq] at h;rcases hu with rfl|rfl<;>omega
  ·exact ih
theorem jq {P:Program} (w:World) (s:ByteArray) (pos:Nat) (h:pos<s.size) (hb:bt s pos<128) (ty:TypeId) :
  (Instr.next (.pointer (some ⟨w.heap.size+1,0,none⟩)) true ty).run P ((wA w).iter s pos)=.ok (.tuple #[.bool true,.int .i64 pos,.int .i32 (bt s pos)]) ((wA w).iter s (pos+1)):=by
 have:=KE (P:=P) (wA w) s pos h hb ty
 rwa [show (wA w).heap.size=w.heap.size+1 by unfold wA;simp] at this
theorem rG {P:Program} (w:World) (s:ByteArray) (pos:Nat) (h:pos<s.size) (ty:TypeId) :
  (Instr.next (.pointer (some ⟨w.heap.size+1,0,none⟩)) true ty).run P ((wA w).iter s pos)=.ok (.tuple #[.bool true,.int .i64 pos,.int .i32 (Utf8.decode s pos).1]) ((wA w).iter s (pos+(Utf8.decode s pos).2)):=by
 have:=run_next_any (P:=P) (wA w) s pos ty h
 rwa [show (wA w).heap.size=w.heap.size+1 by unfold wA;simp] at this
theorem rH {P:Program} (w:World) (s:ByteArray) (pos:Nat) (h:¬ pos<s.size) (ty:TypeId) :
  (Instr.next (.pointer (some ⟨w.heap.size+1,0,none⟩)) true ty).run P ((wA w).iter s pos)=.ok (.tuple #[.bool false]) ((wA w).iter s pos):=by
 have:=run_next_end (P:=P) (wA w) s pos ty h
 rwa [show (wA w).heap.size=w.heap.size+1 by unfold wA;simp] at this
theorem eB (w:World) (s:ByteArray) (p:Nat):((wA w).iter s p).iterPos (w.heap.size+1)=p:=by
 have:=World.iterPos_iter (wA w) s p
 rwa [show (wA w).heap.size=w.heap.size+1 by unfold wA;simp] at this
theorem aZ (n m:Nat) (h:m=n-1) (h0:0<n) (hn:n<9223372036854775807):wrap64 ((n:Int)-(m:Int))=1/\(n:Int)-(m:Int)=1:=by subst h;unfold wrap64;omega
theorem aE (K n m E:Nat) (hm:m=n-1) (h0:0<n) (hn:n<9223372036854775807) (h:K<=m) (hE:E=1+K):wrap64 (1+(K:Int))=(E:Int)/\1+(K:Int)=(E:Int)/\wrap64 (E:Int)=(E:Int):=by subst hE;unfold wrap64;omega
theorem aS (n m:Nat) (hm:m=n-1) (hn:n<9223372036854775807):m<9223372036854775807:=by omega
theorem ky (s:ByteArray) (hi:0<s.size) (w:World) {P:Program} (t:TypeId) (h:P.underlying t=some .string):(Instr.index t (.string s) (.int .i64 0)).run P w=.ok (.int .u8 (bt s 0)) w:=Rm s 0 hi w t h
end Lx
theorem acf (s:ByteArray) (h0:0<s.size) (h63:s.size<9223372036854775807) (hc:bt s 0≠126) (h1:en s dg 0=0) (w:World):Calls Tryz.prog 114 #[.string s] w fun e w'=>e=.returned (iC (none))/\Below w.heap.size w w':=by
 have hx:=fun (w:World)=>ky s h0 w (P:=Tryz.prog) 9 Tryz.underlying9;have q0:(bt s 0 == 126)=false:=beq_eq_false_iff_ne.2 hc;have HA:=ae (fun j (h:j<en s dg 0)=>oK s dg (Nat.zero_le j) h);have fU:=ae (jw s dg (Nat.zero_le _));have HN:=ae (sw s dg (i:=0));obtain ⟨K,hK⟩:∃K,en s dg 0=K:=⟨_,rfl⟩;obtain ⟨PV,fO⟩:∃PV,bK s 1 K 0 0=PV:=⟨_,rfl⟩;have HF:=ae fO;rw [hK] at HA fU HN h1;have HO:Hid (iC (none)=.tuple #[.agg #[.int .i64 0,.string ⟨#[]⟩,.int .i64 0,.int .i64 0],.int .i64 0,.int .i64 110]):=ae rfl;generalize iC (none)=OUT at HO ⊢;have kZ:Hid (s.size<9223372036854775807):=ae (h63);have z1:((K:Int) == 0)=true:=beq_iff_eq.2 (by omega);clear hc hK fO h1;obtain ⟨d,hd⟩:∃d,d=s:=⟨_,rfl⟩;subst hd;go_enter Tryz.func114,Tryz.ntmps114;go_wp2;go_loopw [7,8] (fun n l w'=>∃k:Nat,w'=(wA w).iter d k/\n=.int .i64 (bK d 1 k 0 0)/\l=.int .i64 k/\k<=K) (fun _ _ w'=>d.size-w'.iterPos (w.heap.size+1))
 case atStart=>exact ⟨0,rfl,rfl,rfl,Nat.zero_le _⟩
 case round =>
  obtain ⟨k,rfl,rfl,rfl,hk⟩:=hrel;by_cases dH:k<K
  ·have hd:=kv (HA.out k dH);have hp:k<d.size:=by have:=fU.out;omega
   have hnx:∀ty,(Instr.next (.pointer (some ⟨w.heap.size+1,0,none⟩)) true ty).run Tryz.prog ((wA w).iter d k)=_:=fun ty=>jq w d k hp (by omega) ty;have HD:=ae (gZ (bt d k) ((wA w).iter d (k+1)));rw [HA.out k dH] at HD;have hb:=mX d 1 (by decide) k fun j hj=>HA.out j (by omega);have hs:=oJ d 1 k 0 0;rw [Nat.zero_add] at hs;have HJ:=ae (mY (bK d 1 k 0 0) ((wA w).iter d (k+1)) (by omega) (by omega));have hwl:wrap64 ((k:Int)+1)=((k+1:Nat):Int):=by have:=kZ.out;unfold wrap64;omega
   obtain ⟨V',hV'⟩:∃V',V'=bK d 1 (k+1) 0 0:=⟨_,rfl⟩;rw [<- hV'] at hs;have gm:=ae hV';clear hV' HF;generalize bK d 1 k 0 0=V at *;generalize bt d k=c at *;cases hi:ez V with
   | true =>
    rw [hi,if_pos rfl] at hs;rw [hi] at HJ;have hw1:wrap64 (V*10)=V*10:=by unfold wrap64;omega
    have hw2:IntKind.i32.wrap (c-48)=c-48:=by rw [IntKind.wrap_i32];omega
    have sS:wrap32 (c-48)=c-48:=by unfold wrap32;omega
    have hw3:wrap64 (1*(c-48))=1*(c-48):=by unfold wrap64;omega
    have hw4:wrap64 (V*10+1*(c-48))=V':=by rw [hs];unfold wrap64;omega
    have iG:=ae hw4;clear hd hb hs;go_wp2_with fail;refine HD.out.mono ?_;rintro e u ⟨rfl,rfl⟩;go_wp2_with fail;refine HJ.out.mono ?_;rintro e u ⟨rfl,rfl⟩;go_wp2;go_roundw
    case rel=>exact ⟨k+1,rfl,by rw [<- gm.out,<- iG.out];first|rfl|(congr 1;done)|(congr 1;unfold wrap64;omega),by first|rfl|(congr 1),dH⟩
    case measure=>rw [eB,eB];omega
   | false =>
    rw [hi,if_neg (by decide)] at hs;rw [hi] at HJ;have HS:=ae hs;clear hd hb hs;go_wp2_with fail;refine HD.out.mono ?_;rintro e u ⟨rfl,rfl⟩;go_wp2_with fail;refine HJ.out.mono ?_;rintro e u ⟨rfl,rfl⟩;go_wp2;go_roundw
    case rel=>exact ⟨k+1,rfl,by rw [<- gm.out,HS.out],by first|rfl|(congr 1),dH⟩
    case measure=>rw [eB,eB];omega
  ·obtain rfl:k=K:=by omega
   have gp:=ae (show bK d 1 k 0 0=PV from HF.out);rw [gp.out];clear gp HF;by_cases hp:k<d.size
   ·have key:∃(wd:Nat) (c:Int),(∀ty,(Instr.next (.pointer (some ⟨w.heap.size+1,0,none⟩)) true ty).run Tryz.prog ((wA w).iter d k)=.ok (.tuple #[.bool true,.int .i64 k,.int .i32 c]) ((wA w).iter d (k+wd)))/\dg c=false:=by
     by_cases hb:bt d k<128
     ·exact ⟨1,bt d k,fun ty=>jq w d k hp hb ty,HN.out hp⟩
     ·exact ⟨_,_,fun ty=>rG w d k hp ty,qo (o9 d k hp hb).1⟩
    obtain ⟨wd,c,hnx,fN⟩:=key;have HD:=ae (gZ c ((wA w).iter d (k+wd)));rw [fN] at HD;clear fN HN HA;go_wp2_with fail;refine HD.out.mono ?_;rintro e u ⟨rfl,rfl⟩;obtain ⟨W2,bu,hth,z5,z6,z7,z8,hbl⟩:=((An.start w).on (iB (wA w) d (k+wd))).put (.int .i64 0) (.string ⟨#[]⟩) (.int .i64 0) (.int .i64 0);have HW2:=ae bu;have aC:=ae hth;have cf:=ae hbl;clear bu hth hbl;go_wp2_with (refine wpList_store_mid rfl 47 (.tmp 2) (.tmp 53) rfl w.heap.size 0 #[.int .i64 0,.string ⟨#[]⟩,.int .i64 0,.int .i64 0] rfl rfl aC.out fI (by simp [Value.oneCell']) ?_;rw [HW2.out]);refine bodyPost_ret (v:=.tuple #[.agg #[.int .i64 0,.string ⟨#[]⟩,.int .i64 0,.int .i64 0],.int .i64 0,.int .i64 110]) (by simp [results,Tryz.results114,go_sem,z5,z6,z7,z8]) rfl ⟨congrArg _ HO.out.symm,cf.out⟩
   ·have hnx:∀ty,(Instr.next (.pointer (some ⟨w.heap.size+1,0,none⟩)) true ty).run Tryz.prog ((wA w).iter d k)=_:=fun ty=>rH w d k hp ty;clear HN HA;obtain ⟨W2,bu,hth,z5,z6,z7,z8,hbl⟩:=((An.start w).on (iB (wA w) d k)).put (.int .i64 0) (.string ⟨#[]⟩) (.int .i64 0) (.int .i64 0);have HW2:=ae bu;have aC:=ae hth;have cf:=ae hbl;clear bu hth hbl;go_wp2_with (refine wpList_store_mid rfl 47 (.tmp 2) (.tmp 53) rfl w.heap.size 0 #[.int .i64 0,.string ⟨#[]⟩,.int .i64 0,.int .i64 0] rfl rfl aC.out fI (by simp [Value.oneCell']) ?_;rw [HW2.out]);refine bodyPost_ret (v:=.tuple #[.agg #[.int .i64 0,.string ⟨#[]⟩,.int .i64 0,.int .i64 0],.int .i64 0,.int .i64 110]) (by simp [results,Tryz.results114,go_sem,z5,z6,z7,z8]) rfl ⟨congrArg _ HO.out.symm,cf.out⟩
theorem acg (s:ByteArray) (h0:0<s.size) (h63:s.size<9223372036854775807) (hc:bt s 0=126) (h1:en (s.extract 1 s.size) dg 0=0) (w:World):Calls Tryz.prog 114 #[.string s] w fun e w'=>e=.returned (iC (none))/\Below w.heap.size w w':=by
 have hx:=fun (w:World)=>ky s h0 w (P:=Tryz.prog) 9 Tryz.underlying9;have q0:(bt s 0 == 126)=true:=beq_iff_eq.2 hc;have hsz:(s.extract 1 s.size).size=s.size-1:=qJ s 1;have HA:=ae (fun j (h:j<en (s.extract 1 s.size) dg 0)=>oK (s.extract 1 s.size) dg (Nat.zero_le j) h);have fU:=ae (jw (s.extract 1 s.size) dg (Nat.zero_le _));have HN:=ae (sw (s.extract 1 s.size) dg (i:=0));obtain ⟨K,hK⟩:∃K,en (s.extract 1 s.size) dg 0=K:=⟨_,rfl⟩;obtain ⟨PV,fO⟩:∃PV,bK (s.extract 1 s.size) (-1) K 0 0=PV:=⟨_,rfl⟩;have HF:=ae fO;rw [hK] at HA fU HN h1;have HO:Hid (iC (none)=.tuple #[.agg #[.int .i64 0,.string ⟨#[]⟩,.int .i64 0,.int .i64 0],.int .i64 0,.int .i64 110]):=ae rfl;generalize iC (none)=OUT at HO ⊢;have kZ:Hid ((s.extract 1 s.size).size<9223372036854775807):=ae (aS _ _ hsz h63);have z1:((K:Int) == 0)=true:=beq_iff_eq.2 (by omega);clear hc hK fO h1 hsz;go_enter Tryz.func114,Tryz.ntmps114;go_wp2;generalize s.extract 1 s.size=d at *;go_loopw [7,8] (fun n l w'=>∃k:Nat,w'=(wA w).iter d k/\n=.int .i64 (bK d (-1) k 0 0)/\l=.int .i64 k/\k<=K) (fun _ _ w'=>d.size-w'.iterPos (w.heap.size+1))
 case atStart=>exact ⟨0,rfl,rfl,rfl,Nat.zero_le _⟩
 case round =>
  obtain ⟨k,rfl,rfl,rfl,hk⟩:=hrel;by_cases dH:k<K
  ·have hd:=kv (HA.out k dH);have hp:k<d.size:=by have:=fU.out;omega
   have hnx:∀ty,(Instr.next (.pointer (some ⟨w.heap.size+1,0,none⟩)) true ty).run Tryz.prog ((wA w).iter d k)=_:=fun ty=>jq w d k hp (by omega) ty;have HD:=ae (gZ (bt d k) ((wA w).iter d (k+1)));rw [HA.out k dH] at HD;have hb:=mX d (-1) (by decide) k fun j hj=>HA.out j (by omega);have hs:=oJ d (-1) k 0 0;rw [Nat.zero_add] at hs;have HJ:=ae (mY (bK d (-1) k 0 0) ((wA w).iter d (k+1)) (by omega) (by omega));have hwl:wrap64 ((k:Int)+1)=((k+1:Nat):Int):=by have:=kZ.out;unfold wrap64;omega
   obtain ⟨V',hV'⟩:∃V',V'=bK d (-1) (k+1) 0 0:=⟨_,rfl⟩;rw [<- hV'] at hs;have gm:=ae hV';clear hV' HF;generalize bK d (-1) k 0 0=V at *;generalize bt d k=c at *;cases hi:ez V with
   | true =>
    rw [hi,if_pos rfl] at hs;rw [hi] at HJ;have hw1:wrap64 (V*10)=V*10:=by unfold wrap64;omega
    have hw2:IntKind.i32.wrap (c-48)=c-48:=by rw [IntKind.wrap_i32];omega
    have sS:wrap32 (c-48)=c-48:=by unfold wrap32;omega
    have hw3:wrap64 ((-1)*(c-48))=(-1)*(c-48):=by unfold wrap64;omega
    have hw4:wrap64 (V*10+(-1)*(c-48))=V':=by rw [hs];unfold wrap64;omega
    have iG:=ae hw4;clear hd hb hs;go_wp2_with fail;refine HD.out.mono ?_;rintro e u ⟨rfl,rfl⟩;go_wp2_with fail;refine HJ.out.mono ?_;rintro e u ⟨rfl,rfl⟩;go_wp2;go_roundw
    case rel=>exact ⟨k+1,rfl,by rw [<- gm.out,<- iG.out];first|rfl|(congr 1;done)|(congr 1;unfold wrap64;omega),by first|rfl|(congr 1),dH⟩
    case measure=>rw [eB,eB];omega
   | false =>
    rw [hi,if_neg (by decide)] at hs;rw [hi] at HJ;have HS:=ae hs;clear hd hb hs;go_wp2_with fail;refine HD.out.mono ?_;rintro e u ⟨rfl,rfl⟩;go_wp2_with fail;refine HJ.out.mono ?_;rintro e u ⟨rfl,rfl⟩;go_wp2;go_roundw
    case rel=>exact ⟨k+1,rfl,by rw [<- gm.out,HS.out],by first|rfl|(congr 1),dH⟩
    case measure=>rw [eB,eB];omega
  ·obtain rfl:k=K:=by omega
   have gp:=ae (show bK d (-1) k 0 0=PV from HF.out);rw [gp.out];clear gp HF;by_cases hp:k<d.size
   ·have key:∃(wd:Nat) (c:Int),(∀ty,(Instr.next (.pointer (some ⟨w.heap.size+1,0,none⟩)) true ty).run Tryz.prog ((wA w).iter d k)=.ok (.tuple #[.bool true,.int .i64 k,.int .i32 c]) ((wA w).iter d (k+wd)))/\dg c=false:=by
     by_cases hb:bt d k<128
     ·exact ⟨1,bt d k,fun ty=>jq w d k hp hb ty,HN.out hp⟩
     ·exact ⟨_,_,fun ty=>rG w d k hp ty,qo (o9 d k hp hb).1⟩
    obtain ⟨wd,c,hnx,fN⟩:=key;have HD:=ae (gZ c ((wA w).iter d (k+wd)));rw [fN] at HD;clear fN HN HA;go_wp2_with fail;refine HD.out.mono ?_;rintro e u ⟨rfl,rfl⟩;obtain ⟨W2,bu,hth,z5,z6,z7,z8,hbl⟩:=((An.start w).on (iB (wA w) d (k+wd))).put (.int .i64 0) (.string ⟨#[]⟩) (.int .i64 0) (.int .i64 0);have HW2:=ae bu;have aC:=ae hth;have cf:=ae hbl;clear bu hth hbl;go_wp2_with (refine wpList_store_mid rfl 47 (.tmp 2) (.tmp 53) rfl w.heap.size 0 #[.int .i64 0,.string ⟨#[]⟩,.int .i64 0,.int .i64 0] rfl rfl aC.out fI (by simp [Value.oneCell']) ?_;rw [HW2.out]);refine bodyPost_ret (v:=.tuple #[.agg #[.int .i64 0,.string ⟨#[]⟩,.int .i64 0,.int .i64 0],.int .i64 0,.int .i64 110]) (by simp [results,Tryz.results114,go_sem,z5,z6,z7,z8]) rfl ⟨congrArg _ HO.out.symm,cf.out⟩
   ·have hnx:∀ty,(Instr.next (.pointer (some ⟨w.heap.size+1,0,none⟩)) true ty).run Tryz.prog ((wA w).iter d k)=_:=fun ty=>rH w d k hp ty;clear HN HA;obtain ⟨W2,bu,hth,z5,z6,z7,z8,hbl⟩:=((An.start w).on (iB (wA w) d k)).put (.int .i64 0) (.string ⟨#[]⟩) (.int .i64 0) (.int .i64 0);have HW2:=ae bu;have aC:=ae hth;have cf:=ae hbl;clear bu hth hbl;go_wp2_with (refine wpList_store_mid rfl 47 (.tmp 2) (.tmp 53) rfl w.heap.size 0 #[.int .i64 0,.string ⟨#[]⟩,.int .i64 0,.int .i64 0] rfl rfl aC.out fI (by simp [Value.oneCell']) ?_;rw [HW2.out]);refine bodyPost_ret (v:=.tuple #[.agg #[.int .i64 0,.string ⟨#[]⟩,.int .i64 0,.int .i64 0],.int .i64 0,.int .i64 110]) (by simp [results,Tryz.results114,go_sem,z5,z6,z7,z8]) rfl ⟨congrArg _ HO.out.symm,cf.out⟩
theorem ach (s:ByteArray) (h0:0<s.size) (h63:s.size<9223372036854775807) (hc:bt s 0≠126) (h1:1<en s dg 0) (h2:bt s 0=48) (w:World):Calls Tryz.prog 114 #[.string s] w fun e w'=>e=.returned (iC (none))/\Below w.heap.size w w':=by
 have hx:=fun (w:World)=>ky s h0 w (P:=Tryz.prog) 9 Tryz.underlying9;have q0:(bt s 0 == 126)=false:=beq_eq_false_iff_ne.2 hc;have HA:=ae (fun j (h:j<en s dg 0)=>oK s dg (Nat.zero_le j) h);have fU:=ae (jw s dg (Nat.zero_le _));have HN:=ae (sw s dg (i:=0));obtain ⟨K,hK⟩:∃K,en s dg 0=K:=⟨_,rfl⟩;obtain ⟨PV,fO⟩:∃PV,bK s 1 K 0 0=PV:=⟨_,rfl⟩;have HF:=ae fO;rw [hK] at HA fU HN h1;have HO:Hid (iC (none)=.tuple #[.agg #[.int .i64 0,.string ⟨#[]⟩,.int .i64 0,.int .i64 0],.int .i64 0,.int .i64 110]):=ae rfl;generalize iC (none)=OUT at HO ⊢;have kZ:Hid (s.size<9223372036854775807):=ae (h63);have z1:((K:Int) == 0)=false:=beq_eq_false_iff_ne.2 (by omega);have z2:decide ((K:Int) > 1)=true:=decide_eq_true (by omega);have z3:1<K:=h1;have z4:(bt s 0 == 48)=true:=beq_iff_eq.2 h2;have hy:=fun (w:World)=>ky s (by have:=fU.out;omega) w (P:=Tryz.prog) 9 Tryz.underlying9;clear hc hK fO h1;obtain ⟨d,hd⟩:∃d,d=s:=⟨_,rfl⟩;subst hd;go_enter Tryz.func114,Tryz.ntmps114;go_wp2;go_loopw [7,8] (fun n l w'=>∃k:Nat,w'=(wA w).iter d k/\n=.int .i64 (bK d 1 k 0 0)/\l=.int .i64 k/\k<=K) (fun _ _ w'=>d.size-w'.iterPos (w.heap.size+1))
 case atStart=>exact ⟨0,rfl,rfl,rfl,Nat.zero_le _⟩
 case round =>
  obtain ⟨k,rfl,rfl,rfl,hk⟩:=hrel;by_cases dH:k<K
  ·have hd:=kv (HA.out k dH);have hp:k<d.size:=by have:=fU.out;omega
   have hnx:∀ty,(Instr.next (.pointer (some ⟨w.heap.size+1,0,none⟩)) true ty).run Tryz.prog ((wA w).iter d k)=_:=fun ty=>jq w d k hp (by omega) ty;have HD:=ae (gZ (bt d k) ((wA w).iter d (k+1)));rw [HA.out k dH] at HD;have hb:=mX d 1 (by decide) k fun j hj=>HA.out j (by omega);have hs:=oJ d 1 k 0 0;rw [Nat.zero_add] at hs;have HJ:=ae (mY (bK d 1 k 0 0) ((wA w).iter d (k+1)) (by omega) (by omega));have hwl:wrap64 ((k:Int)+1)=((k+1:Nat):Int):=by have:=kZ.out;unfold wrap64;omega
   obtain ⟨V',hV'⟩:∃V',V'=bK d 1 (k+1) 0 0:=⟨_,rfl⟩;rw [<- hV'] at hs;have gm:=ae hV';clear hV' HF;generalize bK d 1 k 0 0=V at *;generalize bt d k=c at *;cases hi:ez V with
   | true =>
    rw [hi,if_pos rfl] at hs;rw [hi] at HJ;have hw1:wrap64 (V*10)=V*10:=by unfold wrap64;omega
    have hw2:IntKind.i32.wrap (c-48)=c-48:=by rw [IntKind.wrap_i32];omega
    have sS:wrap32 (c-48)=c-48:=by unfold wrap32;omega
    have hw3:wrap64 (1*(c-48))=1*(c-48):=by unfold wrap64;omega
    have hw4:wrap64 (V*10+1*(c-48))=V':=by rw [hs];unfold wrap64;omega
    have iG:=ae hw4;clear hd hb hs;go_wp2_with fail;refine HD.out.mono ?_;rintro e u ⟨rfl,rfl⟩;go_wp2_with fail;refine HJ.out.mono ?_;rintro e u ⟨rfl,rfl⟩;go_wp2;go_roundw
    case rel=>exact ⟨k+1,rfl,by rw [<- gm.out,<- iG.out];first|rfl|(congr 1;done)|(congr 1;unfold wrap64;omega),by first|rfl|(congr 1),dH⟩
    case measure=>rw [eB,eB];omega
   | false =>
    rw [hi,if_neg (by decide)] at hs;rw [hi] at HJ;have HS:=ae hs;clear hd hb hs;go_wp2_with fail;refine HD.out.mono ?_;rintro e u ⟨rfl,rfl⟩;go_wp2_with fail;refine HJ.out.mono ?_;rintro e u ⟨rfl,rfl⟩;go_wp2;go_roundw
    case rel=>exact ⟨k+1,rfl,by rw [<- gm.out,HS.out],by first|rfl|(congr 1),dH⟩
    case measure=>rw [eB,eB];omega
  ·obtain rfl:k=K:=by omega
   have gp:=ae (show bK d 1 k 0 0=PV from HF.out);rw [gp.out];clear gp HF;by_cases hp:k<d.size
   ·have key:∃(wd:Nat) (c:Int),(∀ty,(Instr.next (.pointer (some ⟨w.heap.size+1,0,none⟩)) true ty).run Tryz.prog ((wA w).iter d k)=.ok (.tuple #[.bool true,.int .i64 k,.int .i32 c]) ((wA w).iter d (k+wd)))/\dg c=false:=by
     by_cases hb:bt d k<128
     ·exact ⟨1,bt d k,fun ty=>jq w d k hp hb ty,HN.out hp⟩
     ·exact ⟨_,_,fun ty=>rG w d k hp ty,qo (o9 d k hp hb).1⟩
    obtain ⟨wd,c,hnx,fN⟩:=key;have HD:=ae (gZ c ((wA w).iter d (k+wd)));rw [fN] at HD;clear fN HN HA;go_wp2_with fail;refine HD.out.mono ?_;rintro e u ⟨rfl,rfl⟩;obtain ⟨W2,bu,hth,z5,z6,z7,z8,hbl⟩:=((An.start w).on (iB (wA w) d (k+wd))).put (.int .i64 0) (.string ⟨#[]⟩) (.int .i64 0) (.int .i64 0);have HW2:=ae bu;have aC:=ae hth;have cf:=ae hbl;clear bu hth hbl;go_wp2_with (refine wpList_store_mid rfl 47 (.tmp 2) (.tmp 53) rfl w.heap.size 0 #[.int .i64 0,.string ⟨#[]⟩,.int .i64 0,.int .i64 0] rfl rfl aC.out fI (by simp [Value.oneCell']) ?_;rw [HW2.out]);refine bodyPost_ret (v:=.tuple #[.agg #[.int .i64 0,.string ⟨#[]⟩,.int .i64 0,.int .i64 0],.int .i64 0,.int .i64 110]) (by simp [results,Tryz.results114,go_sem,z5,z6,z7,z8]) rfl ⟨congrArg _ HO.out.symm,cf.out⟩
   ·have hnx:∀ty,(Instr.next (.pointer (some ⟨w.heap.size+1,0,none⟩)) true ty).run Tryz.prog ((wA w).iter d k)=_:=fun ty=>rH w d k hp ty;clear HN HA;obtain ⟨W2,bu,hth,z5,z6,z7,z8,hbl⟩:=((An.start w).on (iB (wA w) d k)).put (.int .i64 0) (.string ⟨#[]⟩) (.int .i64 0) (.int .i64 0);have HW2:=ae bu;have aC:=ae hth;have cf:=ae hbl;clear bu hth hbl;go_wp2_with (refine wpList_store_mid rfl 47 (.tmp 2) (.tmp 53) rfl w.heap.size 0 #[.int .i64 0,.string ⟨#[]⟩,.int .i64 0,.int .i64 0] rfl rfl aC.out fI (by simp [Value.oneCell']) ?_;rw [HW2.out]);refine bodyPost_ret (v:=.tuple #[.agg #[.int .i64 0,.string ⟨#[]⟩,.int .i64 0,.int .i64 0],.int .i64 0,.int .i64 110]) (by simp [results,Tryz.results114,go_sem,z5,z6,z7,z8]) rfl ⟨congrArg _ HO.out.symm,cf.out⟩
theorem aci (s:ByteArray) (h0:0<s.size) (h63:s.size<9223372036854775807) (hc:bt s 0=126) (h1:1<en (s.extract 1 s.size) dg 0) (h2:bt (s.extract 1 s.size) 0=48) (w:World):Calls Tryz.prog 114 #[.string s] w fun e w'=>e=.returned (iC (none))/\Below w.heap.size w w':=by
 have hx:=fun (w:World)=>ky s h0 w (P:=Tryz.prog) 9 Tryz.underlying9;have q0:(bt s 0 == 126)=true:=beq_iff_eq.2 hc;have hsz:(s.extract 1 s.size).size=s.size-1:=qJ s 1;have HA:=ae (fun j (h:j<en (s.extract 1 s.size) dg 0)=>oK (s.extract 1 s.size) dg (Nat.zero_le j) h);have fU:=ae (jw (s.extract 1 s.size) dg (Nat.zero_le _));have HN:=ae (sw (s.extract 1 s.size) dg (i:=0));obtain ⟨K,hK⟩:∃K,en (s.extract 1 s.size) dg 0=K:=⟨_,rfl⟩;obtain ⟨PV,fO⟩:∃PV,bK (s.extract 1 s.size) (-1) K 0 0=PV:=⟨_,rfl⟩;have HF:=ae fO;rw [hK] at HA fU HN h1;have HO:Hid (iC (none)=.tuple #[.agg #[.int .i64 0,.string ⟨#[]⟩,.int .i64 0,.int .i64 0],.int .i64 0,.int .i64 110]):=ae rfl;generalize iC (none)=OUT at HO ⊢;have kZ:Hid ((s.extract 1 s.size).size<9223372036854775807):=ae (aS _ _ hsz h63);have z1:((K:Int) == 0)=false:=beq_eq_false_iff_ne.2 (by omega);have z2:decide ((K:Int) > 1)=true:=decide_eq_true (by omega);have z3:1<K:=h1;have z4:(bt (s.extract 1 s.size) 0 == 48)=true:=beq_iff_eq.2 h2;have hy:=fun (w:World)=>ky (s.extract 1 s.size) (by have:=fU.out;omega) w (P:=Tryz.prog) 9 Tryz.underlying9;clear hc hK fO h1 hsz;go_enter Tryz.func114,Tryz.ntmps114;go_wp2;generalize s.extract 1 s.size=d at *;go_loopw [7,8] (fun n l w'=>∃k:Nat,w'=(wA w).iter d k/\n=.int .i64 (bK d (-1) k 0 0)/\l=.int .i64 k/\k<=K) (fun _ _ w'=>d.size-w'.iterPos (w.heap.size+1))
 case atStart=>exact ⟨0,rfl,rfl,rfl,Nat.zero_le _⟩
 case round =>
  obtain ⟨k,rfl,rfl,rfl,hk⟩:=hrel;by_cases dH:k<K
  ·have hd:=kv (HA.out k dH);have hp:k<d.size:=by have:=fU.out;omega
   have hnx:∀ty,(Instr.next (.pointer (some ⟨w.heap.size+1,0,none⟩)) true ty).run Tryz.prog ((wA w).iter d k)=_:=fun ty=>jq w d k hp (by omega) ty;have HD:=ae (gZ (bt d k) ((wA w).iter d (k+1)));rw [HA.out k dH] at HD;have hb:=mX d (-1) (by decide) k fun j hj=>HA.out j (by omega);have hs:=oJ d (-1) k 0 0;rw [Nat.zero_add] at hs;have HJ:=ae (mY (bK d (-1) k 0 0) ((wA w).iter d (k+1)) (by omega) (by omega));have hwl:wrap64 ((k:Int)+1)=((k+1:Nat):Int):=by have:=kZ.out;unfold wrap64;omega
   obtain ⟨V',hV'⟩:∃V',V'=bK d (-1) (k+1) 0 0:=⟨_,rfl⟩;rw [<- hV'] at hs;have gm:=ae hV';clear hV' HF;generalize bK d (-1) k 0 0=V at *;generalize bt d k=c at *;cases hi:ez V with
   | true =>
    rw [hi,if_pos rfl] at hs;rw [hi] at HJ;have hw1:wrap64 (V*10)=V*10:=by unfold wrap64;omega
    have hw2:IntKind.i32.wrap (c-48)=c-48:=by rw [IntKind.wrap_i32];omega
    have sS:wrap32 (c-48)=c-48:=by unfold wrap32;omega
    have hw3:wrap64 ((-1)*(c-48))=(-1)*(c-48):=by unfold wrap64;omega
    have hw4:wrap64 (V*10+(-1)*(c-48))=V':=by rw [hs];unfold wrap64;omega
    have iG:=ae hw4;clear hd hb hs;go_wp2_with fail;refine HD.out.mono ?_;rintro e u ⟨rfl,rfl⟩;go_wp2_with fail;refine HJ.out.mono ?_;rintro e u ⟨rfl,rfl⟩;go_wp2;go_roundw
    case rel=>exact ⟨k+1,rfl,by rw [<- gm.out,<- iG.out];first|rfl|(congr 1;done)|(congr 1;unfold wrap64;omega),by first|rfl|(congr 1),dH⟩
    case measure=>rw [eB,eB];omega
   | false =>
    rw [hi,if_neg (by decide)] at hs;rw [hi] at HJ;have HS:=ae hs;clear hd hb hs;go_wp2_with fail;refine HD.out.mono ?_;rintro e u ⟨rfl,rfl⟩;go_wp2_with fail;refine HJ.out.mono ?_;rintro e u ⟨rfl,rfl⟩;go_wp2;go_roundw
    case rel=>exact ⟨k+1,rfl,by rw [<- gm.out,HS.out],by first|rfl|(congr 1),dH⟩
    case measure=>rw [eB,eB];omega
  ·obtain rfl:k=K:=by omega
   have gp:=ae (show bK d (-1) k 0 0=PV from HF.out);rw [gp.out];clear gp HF;by_cases hp:k<d.size
   ·have key:∃(wd:Nat) (c:Int),(∀ty,(Instr.next (.pointer (some ⟨w.heap.size+1,0,none⟩)) true ty).run Tryz.prog ((wA w).iter d k)=.ok (.tuple #[.bool true,.int .i64 k,.int .i32 c]) ((wA w).iter d (k+wd)))/\dg c=false:=by
     by_cases hb:bt d k<128
     ·exact ⟨1,bt d k,fun ty=>jq w d k hp hb ty,HN.out hp⟩
     ·exact ⟨_,_,fun ty=>rG w d k hp ty,qo (o9 d k hp hb).1⟩
    obtain ⟨wd,c,hnx,fN⟩:=key;have HD:=ae (gZ c ((wA w).iter d (k+wd)));rw [fN] at HD;clear fN HN HA;go_wp2_with fail;refine HD.out.mono ?_;rintro e u ⟨rfl,rfl⟩;obtain ⟨W2,bu,hth,z5,z6,z7,z8,hbl⟩:=((An.start w).on (iB (wA w) d (k+wd))).put (.int .i64 0) (.string ⟨#[]⟩) (.int .i64 0) (.int .i64 0);have HW2:=ae bu;have aC:=ae hth;have cf:=ae hbl;clear bu hth hbl;go_wp2_with (refine wpList_store_mid rfl 47 (.tmp 2) (.tmp 53) rfl w.heap.size 0 #[.int .i64 0,.string ⟨#[]⟩,.int .i64 0,.int .i64 0] rfl rfl aC.out fI (by simp [Value.oneCell']) ?_;rw [HW2.out]);refine bodyPost_ret (v:=.tuple #[.agg #[.int .i64 0,.string ⟨#[]⟩,.int .i64 0,.int .i64 0],.int .i64 0,.int .i64 110]) (by simp [results,Tryz.results114,go_sem,z5,z6,z7,z8]) rfl ⟨congrArg _ HO.out.symm,cf.out⟩
   ·have hnx:∀ty,(Instr.next (.pointer (some ⟨w.heap.size+1,0,none⟩)) true ty).run Tryz.prog ((wA w).iter d k)=_:=fun ty=>rH w d k hp ty;clear HN HA;obtain ⟨W2,bu,hth,z5,z6,z7,z8,hbl⟩:=((An.start w).on (iB (wA w) d k)).put (.int .i64 0) (.string ⟨#[]⟩) (.int .i64 0) (.int .i64 0);have HW2:=ae bu;have aC:=ae hth;have cf:=ae hbl;clear bu hth hbl;go_wp2_with (refine wpList_store_mid rfl 47 (.tmp 2) (.tmp 53) rfl w.heap.size 0 #[.int .i64 0,.string ⟨#[]⟩,.int .i64 0,.int .i64 0] rfl rfl aC.out fI (by simp [Value.oneCell']) ?_;rw [HW2.out]);refine bodyPost_ret (v:=.tuple #[.agg #[.int .i64 0,.string ⟨#[]⟩,.int .i64 0,.int .i64 0],.int .i64 0,.int .i64 110]) (by simp [results,Tryz.results114,go_sem,z5,z6,z7,z8]) rfl ⟨congrArg _ HO.out.symm,cf.out⟩
theorem acj (s:ByteArray) (h0:0<s.size) (h63:s.size<9223372036854775807) (hc:bt s 0≠126) (h1:0<en s dg 0) (h2:¬ (1<en s dg 0/\bt s 0=48)) (h3:ez (bK s 1 (en s dg 0) 0 0)=false) (w:World):Calls Tryz.prog 114 #[.string s] w fun e w'=>e=.returned (iC (none))/\Below w.heap.size w w':=by
 have hx:=fun (w:World)=>ky s h0 w (P:=Tryz.prog) 9 Tryz.underlying9;have q0:(bt s 0 == 126)=false:=beq_eq_false_iff_ne.2 hc;have HA:=ae (fun j (h:j<en s dg 0)=>oK s dg (Nat.zero_le j) h);have fU:=ae (jw s dg (Nat.zero_le _));have HN:=ae (sw s dg (i:=0));obtain ⟨K,hK⟩:∃K,en s dg 0=K:=⟨_,rfl⟩;obtain ⟨PV,fO⟩:∃PV,bK s 1 K 0 0=PV:=⟨_,rfl⟩;have HF:=ae fO;rw [hK,fO] at h3;rw [hK] at HA fU HN h1 h2;have jS:=ae (mX s 1 (by decide) K fun j hj=>HA.out j hj);rw [fO] at jS;have HI:=ae (fun w=>mY PV w (by have:=jS.out;omega) (by have:=jS.out;omega));rw [h3] at HI;have HO:Hid (iC (none)=.tuple #[.agg #[.int .i64 0,.string ⟨#[]⟩,.int .i64 0,.int .i64 0],.int .i64 0,.int .i64 110]):=ae rfl;generalize iC (none)=OUT at HO ⊢;have kZ:Hid (s.size<9223372036854775807):=ae (h63);have z1:((K:Int) == 0)=false:=beq_eq_false_iff_ne.2 (by omega);have hy:=fun (w:World)=>ky s (by have:=fU.out;omega) w (P:=Tryz.prog) 9 Tryz.underlying9;by_cases z2:1<K
 ·have z3:decide ((K:Int) > 1)=true:=decide_eq_true (Int.ofNat_lt.2 z2);have z4:(bt s 0 == 48)=false:=beq_eq_false_iff_ne.2 (fun h=>h2 ⟨z2,h⟩);clear h2;clear hc hK fO h1;obtain ⟨d,hd⟩:∃d,d=s:=⟨_,rfl⟩;subst hd;go_enter Tryz.func114,Tryz.ntmps114;go_wp2;go_loopw [7,8] (fun n l w'=>∃k:Nat,w'=(wA w).iter d k/\n=.int .i64 (bK d 1 k 0 0)/\l=.int .i64 k/\k<=K) (fun _ _ w'=>d.size-w'.iterPos (w.heap.size+1))
  case atStart=>exact ⟨0,rfl,rfl,rfl,Nat.zero_le _⟩
  case round =>
   obtain ⟨k,rfl,rfl,rfl,hk⟩:=hrel;by_cases dH:k<K
   ·have hd:=kv (HA.out k dH);have hp:k<d.size:=by have:=fU.out;omega
    have hnx:∀ty,(Instr.next (.pointer (some ⟨w.heap.size+1,0,none⟩)) true ty).run Tryz.prog ((wA w).iter d k)=_:=fun ty=>jq w d k hp (by omega) ty;have HD:=ae (gZ (bt d k) ((wA w).iter d (k+1)));rw [HA.out k dH] at HD;have hb:=mX d 1 (by decide) k fun j hj=>HA.out j (by omega);have hs:=oJ d 1 k 0 0;rw [Nat.zero_add] at hs;have HJ:=ae (mY (bK d 1 k 0 0) ((wA w).iter d (k+1)) (by omega) (by omega));have hwl:wrap64 ((k:Int)+1)=((k+1:Nat):Int):=by have:=kZ.out;unfold wrap64;omega
    obtain ⟨V',hV'⟩:∃V',V'=bK d 1 (k+1) 0 0:=⟨_,rfl⟩;rw [<- hV'] at hs;have gm:=ae hV';clear hV' HF;generalize bK d 1 k 0 0=V at *;generalize bt d k=c at *;cases hi:ez V with
    | true =>
     rw [hi,if_pos rfl] at hs;rw [hi] at HJ;have hw1:wrap64 (V*10)=V*10:=by unfold wrap64;omega
     have hw2:IntKind.i32.wrap (c-48)=c-48:=by rw [IntKind.wrap_i32];omega
     have sS:wrap32 (c-48)=c-48:=by unfold wrap32;omega
     have hw3:wrap64 (1*(c-48))=1*(c-48):=by unfold wrap64;omega
     have hw4:wrap64 (V*10+1*(c-48))=V':=by rw [hs];unfold wrap64;omega
     have iG:=ae hw4;clear hd hb hs;go_wp2_with fail;refine HD.out.mono ?_;rintro e u ⟨rfl,rfl⟩;go_wp2_with fail;refine HJ.out.mono ?_;rintro e u ⟨rfl,rfl⟩;go_wp2;go_roundw
     case rel=>exact ⟨k+1,rfl,by rw [<- gm.out,<- iG.out];first|rfl|(congr 1;done)|(congr 1;unfold wrap64;omega),by first|rfl|(congr 1),dH⟩
     case measure=>rw [eB,eB];omega
    | false =>
     rw [hi,if_neg (by decide)] at hs;rw [hi] at HJ;have HS:=ae hs;clear hd hb hs;go_wp2_with fail;refine HD.out.mono ?_;rintro e u ⟨rfl,rfl⟩;go_wp2_with fail;refine HJ.out.mono ?_;rintro e u ⟨rfl,rfl⟩;go_wp2;go_roundw
     case rel=>exact ⟨k+1,rfl,by rw [<- gm.out,HS.out],by first|rfl|(congr 1),dH⟩
     case measure=>rw [eB,eB];omega
   ·obtain rfl:k=K:=by omega
    have gp:=ae (show bK d 1 k 0 0=PV from HF.out);rw [gp.out];clear gp HF;by_cases hp:k<d.size
    ·have key:∃(wd:Nat) (c:Int),(∀ty,(Instr.next (.pointer (some ⟨w.heap.size+1,0,none⟩)) true ty).run Tryz.prog ((wA w).iter d k)=.ok (.tuple #[.bool true,.int .i64 k,.int .i32 c]) ((wA w).iter d (k+wd)))/\dg c=false:=by
      by_cases hb:bt d k<128
      ·exact ⟨1,bt d k,fun ty=>jq w d k hp hb ty,HN.out hp⟩
      ·exact ⟨_,_,fun ty=>rG w d k hp ty,qo (o9 d k hp hb).1⟩
     obtain ⟨wd,c,hnx,fN⟩:=key;have HD:=ae (gZ c ((wA w).iter d (k+wd)));rw [fN] at HD;clear fN HN HA;go_wp2_with fail;refine HD.out.mono ?_;rintro e u ⟨rfl,rfl⟩;obtain ⟨W2,bu,hth,z5,z6,z7,z8,hbl⟩:=((An.start w).on (iB (wA w) d (k+wd))).put (.int .i64 0) (.string ⟨#[]⟩) (.int .i64 0) (.int .i64 0);have HW2:=ae bu;have aC:=ae hth;have cf:=ae hbl;clear bu hth hbl;go_wp2_with fail;refine (HI.out _).mono ?_;rintro e u ⟨rfl,rfl⟩;go_wp2_with (refine wpList_store_mid rfl 47 (.tmp 2) (.tmp 53) rfl w.heap.size 0 #[.int .i64 0,.string ⟨#[]⟩,.int .i64 0,.int .i64 0] rfl rfl aC.out fI (by simp [Value.oneCell']) ?_;rw [HW2.out]);refine bodyPost_ret (v:=.tuple #[.agg #[.int .i64 0,.string ⟨#[]⟩,.int .i64 0,.int .i64 0],.int .i64 0,.int .i64 110]) (by simp [results,Tryz.results114,go_sem,z5,z6,z7,z8]) rfl ⟨congrArg _ HO.out.symm,cf.out⟩
    ·have hnx:∀ty,(Instr.next (.pointer (some ⟨w.heap.size+1,0,none⟩)) true ty).run Tryz.prog ((wA w).iter d k)=_:=fun ty=>rH w d k hp ty;clear HN HA;obtain ⟨W2,bu,hth,z5,z6,z7,z8,hbl⟩:=((An.start w).on (iB (wA w) d k)).put (.int .i64 0) (.string ⟨#[]⟩) (.int .i64 0) (.int .i64 0);have HW2:=ae bu;have aC:=ae hth;have cf:=ae hbl;clear bu hth hbl;go_wp2_with fail;refine (HI.out _).mono ?_;rintro e u ⟨rfl,rfl⟩;go_wp2_with (refine wpList_store_mid rfl 47 (.tmp 2) (.tmp 53) rfl w.heap.size 0 #[.int .i64 0,.string ⟨#[]⟩,.int .i64 0,.int .i64 0] rfl rfl aC.out fI (by simp [Value.oneCell']) ?_;rw [HW2.out]);refine bodyPost_ret (v:=.tuple #[.agg #[.int .i64 0,.string ⟨#[]⟩,.int .i64 0,.int .i64 0],.int .i64 0,.int .i64 110]) (by simp [results,Tryz.results114,go_sem,z5,z6,z7,z8]) rfl ⟨congrArg _ HO.out.symm,cf.out⟩
 ·have z3:decide ((K:Int) > 1)=false:=decide_eq_false (fun h=>z2 (Int.ofNat_lt.1 h));clear h2;clear hc hK fO h1;obtain ⟨d,hd⟩:∃d,d=s:=⟨_,rfl⟩;subst hd;go_enter Tryz.func114,Tryz.ntmps114;go_wp2;go_loopw [7,8] (fun n l w'=>∃k:Nat,w'=(wA w).iter d k/\n=.int .i64 (bK d 1 k 0 0)/\l=.int .i64 k/\k<=K) (fun _ _ w'=>d.size-w'.iterPos (w.heap.size+1))
  case atStart=>exact ⟨0,rfl,rfl,rfl,Nat.zero_le _⟩
  case round =>
   obtain ⟨k,rfl,rfl,rfl,hk⟩:=hrel;by_cases dH:k<K
   ·have hd:=kv (HA.out k dH);have hp:k<d.size:=by have:=fU.out;omega
    have hnx:∀ty,(Instr.next (.pointer (some ⟨w.heap.size+1,0,none⟩)) true ty).run Tryz.prog ((wA w).iter d k)=_:=fun ty=>jq w d k hp (by omega) ty;have HD:=ae (gZ (bt d k) ((wA w).iter d (k+1)));rw [HA.out k dH] at HD;have hb:=mX d 1 (by decide) k fun j hj=>HA.out j (by omega);have hs:=oJ d 1 k 0 0;rw [Nat.zero_add] at hs;have HJ:=ae (mY (bK d 1 k 0 0) ((wA w).iter d (k+1)) (by omega) (by omega));have hwl:wrap64 ((k:Int)+1)=((k+1:Nat):Int):=by have:=kZ.out;unfold wrap64;omega
    obtain ⟨V',hV'⟩:∃V',V'=bK d 1 (k+1) 0 0:=⟨_,rfl⟩;rw [<- hV'] at hs;have gm:=ae hV';clear hV' HF;generalize bK d 1 k 0 0=V at *;generalize bt d k=c at *;cases hi:ez V with
    | true =>
     rw [hi,if_pos rfl] at hs;rw [hi] at HJ;have hw1:wrap64 (V*10)=V*10:=by unfold wrap64;omega
     have hw2:IntKind.i32.wrap (c-48)=c-48:=by rw [IntKind.wrap_i32];omega
     have sS:wrap32 (c-48)=c-48:=by unfold wrap32;omega
     have hw3:wrap64 (1*(c-48))=1*(c-48):=by unfold wrap64;omega
     have hw4:wrap64 (V*10+1*(c-48))=V':=by rw [hs];unfold wrap64;omega
     have iG:=ae hw4;clear hd hb hs;go_wp2_with fail;refine HD.out.mono ?_;rintro e u ⟨rfl,rfl⟩;go_wp2_with fail;refine HJ.out.mono ?_;rintro e u ⟨rfl,rfl⟩;go_wp2;go_roundw
     case rel=>exact ⟨k+1,rfl,by rw [<- gm.out,<- iG.out];first|rfl|(congr 1;done)|(congr 1;unfold wrap64;omega),by first|rfl|(congr 1),dH⟩
     case measure=>rw [eB,eB];omega
    | false =>
     rw [hi,if_neg (by decide)] at hs;rw [hi] at HJ;have HS:=ae hs;clear hd hb hs;go_wp2_with fail;refine HD.out.mono ?_;rintro e u ⟨rfl,rfl⟩;go_wp2_with fail;refine HJ.out.mono ?_;rintro e u ⟨rfl,rfl⟩;go_wp2;go_roundw
     case rel=>exact ⟨k+1,rfl,by rw [<- gm.out,HS.out],by first|rfl|(congr 1),dH⟩
     case measure=>rw [eB,eB];omega
   ·obtain rfl:k=K:=by omega
    have gp:=ae (show bK d 1 k 0 0=PV from HF.out);rw [gp.out];clear gp HF;by_cases hp:k<d.size
    ·have key:∃(wd:Nat) (c:Int),(∀ty,(Instr.next (.pointer (some ⟨w.heap.size+1,0,none⟩)) true ty).run Tryz.prog ((wA w).iter d k)=.ok (.tuple #[.bool true,.int .i64 k,.int .i32 c]) ((wA w).iter d (k+wd)))/\dg c=false:=by
      by_cases hb:bt d k<128
      ·exact ⟨1,bt d k,fun ty=>jq w d k hp hb ty,HN.out hp⟩
      ·exact ⟨_,_,fun ty=>rG w d k hp ty,qo (o9 d k hp hb).1⟩
     obtain ⟨wd,c,hnx,fN⟩:=key;have HD:=ae (gZ c ((wA w).iter d (k+wd)));rw [fN] at HD;clear fN HN HA;go_wp2_with fail;refine HD.out.mono ?_;rintro e u ⟨rfl,rfl⟩;obtain ⟨W2,bu,hth,z5,z6,z7,z8,hbl⟩:=((An.start w).on (iB (wA w) d (k+wd))).put (.int .i64 0) (.string ⟨#[]⟩) (.int .i64 0) (.int .i64 0);have HW2:=ae bu;have aC:=ae hth;have cf:=ae hbl;clear bu hth hbl;go_wp2_with fail;refine (HI.out _).mono ?_;rintro e u ⟨rfl,rfl⟩;go_wp2_with (refine wpList_store_mid rfl 47 (.tmp 2) (.tmp 53) rfl w.heap.size 0 #[.int .i64 0,.string ⟨#[]⟩,.int .i64 0,.int .i64 0] rfl rfl aC.out fI (by simp [Value.oneCell']) ?_;rw [HW2.out]);refine bodyPost_ret (v:=.tuple #[.agg #[.int .i64 0,.string ⟨#[]⟩,.int .i64 0,.int .i64 0],.int .i64 0,.int .i64 110]) (by simp [results,Tryz.results114,go_sem,z5,z6,z7,z8]) rfl ⟨congrArg _ HO.out.symm,cf.out⟩
    ·have hnx:∀ty,(Instr.next (.pointer (some ⟨w.heap.size+1,0,none⟩)) true ty).run Tryz.prog ((wA w).iter d k)=_:=fun ty=>rH w d k hp ty;clear HN HA;obtain ⟨W2,bu,hth,z5,z6,z7,z8,hbl⟩:=((An.start w).on (iB (wA w) d k)).put (.int .i64 0) (.string ⟨#[]⟩) (.int .i64 0) (.int .i64 0);have HW2:=ae bu;have aC:=ae hth;have cf:=ae hbl;clear bu hth hbl;go_wp2_with fail;refine (HI.out _).mono ?_;rintro e u ⟨rfl,rfl⟩;go_wp2_with (refine wpList_store_mid rfl 47 (.tmp 2) (.tmp 53) rfl w.heap.size 0 #[.int .i64 0,.string ⟨#[]⟩,.int .i64 0,.int .i64 0] rfl rfl aC.out fI (by simp [Value.oneCell']) ?_;rw [HW2.out]);refine bodyPost_ret (v:=.tuple #[.agg #[.int .i64 0,.string ⟨#[]⟩,.int .i64 0,.int .i64 0],.int .i64 0,.int .i64 110]) (by simp [results,Tryz.results114,go_sem,z5,z6,z7,z8]) rfl ⟨congrArg _ HO.out.symm,cf.out⟩
theorem ack (s:ByteArray) (h0:0<s.size) (h63:s.size<9223372036854775807) (hc:bt s 0=126) (h1:0<en (s.extract 1 s.size) dg 0) (h2:¬ (1<en (s.extract 1 s.size) dg 0/\bt (s.extract 1 s.size) 0=48)) (h3:ez (bK (s.extract 1 s.size) (-1) (en (s.extract 1 s.size) dg 0) 0 0)=false) (w:World):Calls Tryz.prog 114 #[.string s] w fun e w'=>e=.returned (iC (none))/\Below w.heap.size w w':=by
 have hx:=fun (w:World)=>ky s h0 w (P:=Tryz.prog) 9 Tryz.underlying9;have q0:(bt s 0 == 126)=true:=beq_iff_eq.2 hc;have hsz:(s.extract 1 s.size).size=s.size-1:=qJ s 1;have HA:=ae (fun j (h:j<en (s.extract 1 s.size) dg 0)=>oK (s.extract 1 s.size) dg (Nat.zero_le j) h);have fU:=ae (jw (s.extract 1 s.size) dg (Nat.zero_le _));have HN:=ae (sw (s.extract 1 s.size) dg (i:=0));obtain ⟨K,hK⟩:∃K,en (s.extract 1 s.size) dg 0=K:=⟨_,rfl⟩;obtain ⟨PV,fO⟩:∃PV,bK (s.extract 1 s.size) (-1) K 0 0=PV:=⟨_,rfl⟩;have HF:=ae fO;rw [hK,fO] at h3;rw [hK] at HA fU HN h1 h2;have jS:=ae (mX (s.extract 1 s.size) (-1) (by decide) K fun j hj=>HA.out j hj);rw [fO] at jS;have HI:=ae (fun w=>mY PV w (by have:=jS.out;omega) (by have:=jS.out;omega));rw [h3] at HI;have HO:Hid (iC (none)=.tuple #[.agg #[.int .i64 0,.string ⟨#[]⟩,.int .i64 0,.int .i64 0],.int .i64 0,.int .i64 110]):=ae rfl;generalize iC (none)=OUT at HO ⊢;have kZ:Hid ((s.extract 1 s.size).size<9223372036854775807):=ae (aS _ _ hsz h63);have z1:((K:Int) == 0)=false:=beq_eq_false_iff_ne.2 (by omega);have hy:=fun (w:World)=>ky (s.extract 1 s.size) (by have:=fU.out;omega) w (P:=Tryz.prog) 9 Tryz.underlying9;by_cases z2:1<K
 ·have z3:decide ((K:Int) > 1)=true:=decide_eq_true (Int.ofNat_lt.2 z2);have z4:(bt (s.extract 1 s.size) 0 == 48)=false:=beq_eq_false_iff_ne.2 (fun h=>h2 ⟨z2,h⟩);clear h2;clear hc hK fO h1 hsz;go_enter Tryz.func114,Tryz.ntmps114;go_wp2;generalize s.extract 1 s.size=d at *;go_loopw [7,8] (fun n l w'=>∃k:Nat,w'=(wA w).iter d k/\n=.int .i64 (bK d (-1) k 0 0)/\l=.int .i64 k/\k<=K) (fun _ _ w'=>d.size-w'.iterPos (w.heap.size+1))
  case atStart=>exact ⟨0,rfl,rfl,rfl,Nat.zero_le _⟩
  case round =>
   obtain ⟨k,rfl,rfl,rfl,hk⟩:=hrel;by_cases dH:k<K
   ·have hd:=kv (HA.out k dH);have hp:k<d.size:=by have:=fU.out;omega
    have hnx:∀ty,(Instr.next (.pointer (some ⟨w.heap.size+1,0,none⟩)) true ty).run Tryz.prog ((wA w).iter d k)=_:=fun ty=>jq w d k hp (by omega) ty;have HD:=ae (gZ (bt d k) ((wA w).iter d (k+1)));rw [HA.out k dH] at HD;have hb:=mX d (-1) (by decide) k fun j hj=>HA.out j (by omega);have hs:=oJ d (-1) k 0 0;rw [Nat.zero_add] at hs;have HJ:=ae (mY (bK d (-1) k 0 0) ((wA w).iter d (k+1)) (by omega) (by omega));have hwl:wrap64 ((k:Int)+1)=((k+1:Nat):Int):=by have:=kZ.out;unfold wrap64;omega
    obtain ⟨V',hV'⟩:∃V',V'=bK d (-1) (k+1) 0 0:=⟨_,rfl⟩;rw [<- hV'] at hs;have gm:=ae hV';clear hV' HF;generalize bK d (-1) k 0 0=V at *;generalize bt d k=c at *;cases hi:ez V with
    | true =>
     rw [hi,if_pos rfl] at hs;rw [hi] at HJ;have hw1:wrap64 (V*10)=V*10:=by unfold wrap64;omega
     have hw2:IntKind.i32.wrap (c-48)=c-48:=by rw [IntKind.wrap_i32];omega
     have sS:wrap32 (c-48)=c-48:=by unfold wrap32;omega
     have hw3:wrap64 ((-1)*(c-48))=(-1)*(c-48):=by unfold wrap64;omega
     have hw4:wrap64 (V*10+(-1)*(c-48))=V':=by rw [hs];unfold wrap64;omega
     have iG:=ae hw4;clear hd hb hs;go_wp2_with fail;refine HD.out.mono ?_;rintro e u ⟨rfl,rfl⟩;go_wp2_with fail;refine HJ.out.mono ?_;rintro e u ⟨rfl,rfl⟩;go_wp2;go_roundw
     case rel=>exact ⟨k+1,rfl,by rw [<- gm.out,<- iG.out];first|rfl|(congr 1;done)|(congr 1;unfold wrap64;omega),by first|rfl|(congr 1),dH⟩
     case measure=>rw [eB,eB];omega
    | false =>
     rw [hi,if_neg (by decide)] at hs;rw [hi] at HJ;have HS:=ae hs;clear hd hb hs;go_wp2_with fail;refine HD.out.mono ?_;rintro e u ⟨rfl,rfl⟩;go_wp2_with fail;refine HJ.out.mono ?_;rintro e u ⟨rfl,rfl⟩;go_wp2;go_roundw
     case rel=>exact ⟨k+1,rfl,by rw [<- gm.out,HS.out],by first|rfl|(congr 1),dH⟩
     case measure=>rw [eB,eB];omega
   ·obtain rfl:k=K:=by omega
    have gp:=ae (show bK d (-1) k 0 0=PV from HF.out);rw [gp.out];clear gp HF;by_cases hp:k<d.size
    ·have key:∃(wd:Nat) (c:Int),(∀ty,(Instr.next (.pointer (some ⟨w.heap.size+1,0,none⟩)) true ty).run Tryz.prog ((wA w).iter d k)=.ok (.tuple #[.bool true,.int .i64 k,.int .i32 c]) ((wA w).iter d (k+wd)))/\dg c=false:=by
      by_cases hb:bt d k<128
      ·exact ⟨1,bt d k,fun ty=>jq w d k hp hb ty,HN.out hp⟩
      ·exact ⟨_,_,fun ty=>rG w d k hp ty,qo (o9 d k hp hb).1⟩
     obtain ⟨wd,c,hnx,fN⟩:=key;have HD:=ae (gZ c ((wA w).iter d (k+wd)));rw [fN] at HD;clear fN HN HA;go_wp2_with fail;refine HD.out.mono ?_;rintro e u ⟨rfl,rfl⟩;obtain ⟨W2,bu,hth,z5,z6,z7,z8,hbl⟩:=((An.start w).on (iB (wA w) d (k+wd))).put (.int .i64 0) (.string ⟨#[]⟩) (.int .i64 0) (.int .i64 0);have HW2:=ae bu;have aC:=ae hth;have cf:=ae hbl;clear bu hth hbl;go_wp2_with fail;refine (HI.out _).mono ?_;rintro e u ⟨rfl,rfl⟩;go_wp2_with (refine wpList_store_mid rfl 47 (.tmp 2) (.tmp 53) rfl w.heap.size 0 #[.int .i64 0,.string ⟨#[]⟩,.int .i64 0,.int .i64 0] rfl rfl aC.out fI (by simp [Value.oneCell']) ?_;rw [HW2.out]);refine bodyPost_ret (v:=.tuple #[.agg #[.int .i64 0,.string ⟨#[]⟩,.int .i64 0,.int .i64 0],.int .i64 0,.int .i64 110]) (by simp [results,Tryz.results114,go_sem,z5,z6,z7,z8]) rfl ⟨congrArg _ HO.out.symm,cf.out⟩
    ·have hnx:∀ty,(Instr.next (.pointer (some ⟨w.heap.size+1,0,none⟩)) true ty).run Tryz.prog ((wA w).iter d k)=_:=fun ty=>rH w d k hp ty;clear HN HA;obtain ⟨W2,bu,hth,z5,z6,z7,z8,hbl⟩:=((An.start w).on (iB (wA w) d k)).put (.int .i64 0) (.string ⟨#[]⟩) (.int .i64 0) (.int .i64 0);have HW2:=ae bu;have aC:=ae hth;have cf:=ae hbl;clear bu hth hbl;go_wp2_with fail;refine (HI.out _).mono ?_;rintro e u ⟨rfl,rfl⟩;go_wp2_with (refine wpList_store_mid rfl 47 (.tmp 2) (.tmp 53) rfl w.heap.size 0 #[.int .i64 0,.string ⟨#[]⟩,.int .i64 0,.int .i64 0] rfl rfl aC.out fI (by simp [Value.oneCell']) ?_;rw [HW2.out]);refine bodyPost_ret (v:=.tuple #[.agg #[.int .i64 0,.string ⟨#[]⟩,.int .i64 0,.int .i64 0],.int .i64 0,.int .i64 110]) (by simp [results,Tryz.results114,go_sem,z5,z6,z7,z8]) rfl ⟨congrArg _ HO.out.symm,cf.out⟩
 ·have z3:decide ((K:Int) > 1)=false:=decide_eq_false (fun h=>z2 (Int.ofNat_lt.1 h));clear h2;clear hc hK fO h1 hsz;go_enter Tryz.func114,Tryz.ntmps114;go_wp2;generalize s.extract 1 s.size=d at *;go_loopw [7,8] (fun n l w'=>∃k:Nat,w'=(wA w).iter d k/\n=.int .i64 (bK d (-1) k 0 0)/\l=.int .i64 k/\k<=K) (fun _ _ w'=>d.size-w'.iterPos (w.heap.size+1))
  case atStart=>exact ⟨0,rfl,rfl,rfl,Nat.zero_le _⟩
  case round =>
   obtain ⟨k,rfl,rfl,rfl,hk⟩:=hrel;by_cases dH:k<K
   ·have hd:=kv (HA.out k dH);have hp:k<d.size:=by have:=fU.out;omega
    have hnx:∀ty,(Instr.next (.pointer (some ⟨w.heap.size+1,0,none⟩)) true ty).run Tryz.prog ((wA w).iter d k)=_:=fun ty=>jq w d k hp (by omega) ty;have HD:=ae (gZ (bt d k) ((wA w).iter d (k+1)));rw [HA.out k dH] at HD;have hb:=mX d (-1) (by decide) k fun j hj=>HA.out j (by omega);have hs:=oJ d (-1) k 0 0;rw [Nat.zero_add] at hs;have HJ:=ae (mY (bK d (-1) k 0 0) ((wA w).iter d (k+1)) (by omega) (by omega));have hwl:wrap64 ((k:Int)+1)=((k+1:Nat):Int):=by have:=kZ.out;unfold wrap64;omega
    obtain ⟨V',hV'⟩:∃V',V'=bK d (-1) (k+1) 0 0:=⟨_,rfl⟩;rw [<- hV'] at hs;have gm:=ae hV';clear hV' HF;generalize bK d (-1) k 0 0=V at *;generalize bt d k=c at *;cases hi:ez V with
    | true =>
     rw [hi,if_pos rfl] at hs;rw [hi] at HJ;have hw1:wrap64 (V*10)=V*10:=by unfold wrap64;omega
     have hw2:IntKind.i32.wrap (c-48)=c-48:=by rw [IntKind.wrap_i32];omega
     have sS:wrap32 (c-48)=c-48:=by unfold wrap32;omega
     have hw3:wrap64 ((-1)*(c-48))=(-1)*(c-48):=by unfold wrap64;omega
     have hw4:wrap64 (V*10+(-1)*(c-48))=V':=by rw [hs];unfold wrap64;omega
     have iG:=ae hw4;clear hd hb hs;go_wp2_with fail;refine HD.out.mono ?_;rintro e u ⟨rfl,rfl⟩;go_wp2_with fail;refine HJ.out.mono ?_;rintro e u ⟨rfl,rfl⟩;go_wp2;go_roundw
     case rel=>exact ⟨k+1,rfl,by rw [<- gm.out,<- iG.out];first|rfl|(congr 1;done)|(congr 1;unfold wrap64;omega),by first|rfl|(congr 1),dH⟩
     case measure=>rw [eB,eB];omega
    | false =>
     rw [hi,if_neg (by decide)] at hs;rw [hi] at HJ;have HS:=ae hs;clear hd hb hs;go_wp2_with fail;refine HD.out.mono ?_;rintro e u ⟨rfl,rfl⟩;go_wp2_with fail;refine HJ.out.mono ?_;rintro e u ⟨rfl,rfl⟩;go_wp2;go_roundw
     case rel=>exact ⟨k+1,rfl,by rw [<- gm.out,HS.out],by first|rfl|(congr 1),dH⟩
     case measure=>rw [eB,eB];omega
   ·obtain rfl:k=K:=by omega
    have gp:=ae (show bK d (-1) k 0 0=PV from HF.out);rw [gp.out];clear gp HF;by_cases hp:k<d.size
    ·have key:∃(wd:Nat) (c:Int),(∀ty,(Instr.next (.pointer (some ⟨w.heap.size+1,0,none⟩)) true ty).run Tryz.prog ((wA w).iter d k)=.ok (.tuple #[.bool true,.int .i64 k,.int .i32 c]) ((wA w).iter d (k+wd)))/\dg c=false:=by
      by_cases hb:bt d k<128
      ·exact ⟨1,bt d k,fun ty=>jq w d k hp hb ty,HN.out hp⟩
      ·exact ⟨_,_,fun ty=>rG w d k hp ty,qo (o9 d k hp hb).1⟩
     obtain ⟨wd,c,hnx,fN⟩:=key;have HD:=ae (gZ c ((wA w).iter d (k+wd)));rw [fN] at HD;clear fN HN HA;go_wp2_with fail;refine HD.out.mono ?_;rintro e u ⟨rfl,rfl⟩;obtain ⟨W2,bu,hth,z5,z6,z7,z8,hbl⟩:=((An.start w).on (iB (wA w) d (k+wd))).put (.int .i64 0) (.string ⟨#[]⟩) (.int .i64 0) (.int .i64 0);have HW2:=ae bu;have aC:=ae hth;have cf:=ae hbl;clear bu hth hbl;go_wp2_with fail;refine (HI.out _).mono ?_;rintro e u ⟨rfl,rfl⟩;go_wp2_with (refine wpList_store_mid rfl 47 (.tmp 2) (.tmp 53) rfl w.heap.size 0 #[.int .i64 0,.string ⟨#[]⟩,.int .i64 0,.int .i64 0] rfl rfl aC.out fI (by simp [Value.oneCell']) ?_;rw [HW2.out]);refine bodyPost_ret (v:=.tuple #[.agg #[.int .i64 0,.string ⟨#[]⟩,.int .i64 0,.int .i64 0],.int .i64 0,.int .i64 110]) (by simp [results,Tryz.results114,go_sem,z5,z6,z7,z8]) rfl ⟨congrArg _ HO.out.symm,cf.out⟩
    ·have hnx:∀ty,(Instr.next (.pointer (some ⟨w.heap.size+1,0,none⟩)) true ty).run Tryz.prog ((wA w).iter d k)=_:=fun ty=>rH w d k hp ty;clear HN HA;obtain ⟨W2,bu,hth,z5,z6,z7,z8,hbl⟩:=((An.start w).on (iB (wA w) d k)).put (.int .i64 0) (.string ⟨#[]⟩) (.int .i64 0) (.int .i64 0);have HW2:=ae bu;have aC:=ae hth;have cf:=ae hbl;clear bu hth hbl;go_wp2_with fail;refine (HI.out _).mono ?_;rintro e u ⟨rfl,rfl⟩;go_wp2_with (refine wpList_store_mid rfl 47 (.tmp 2) (.tmp 53) rfl w.heap.size 0 #[.int .i64 0,.string ⟨#[]⟩,.int .i64 0,.int .i64 0] rfl rfl aC.out fI (by simp [Value.oneCell']) ?_;rw [HW2.out]);refine bodyPost_ret (v:=.tuple #[.agg #[.int .i64 0,.string ⟨#[]⟩,.int .i64 0,.int .i64 0],.int .i64 0,.int .i64 110]) (by simp [results,Tryz.results114,go_sem,z5,z6,z7,z8]) rfl ⟨congrArg _ HO.out.symm,cf.out⟩
theorem acm (s:ByteArray) (h0:0<s.size) (h63:s.size<9223372036854775807) (hc:bt s 0≠126) (h1:0<en s dg 0) (h2:¬ (1<en s dg 0/\bt s 0=48)) (h3:ez (bK s 1 (en s dg 0) 0 0)=true) (w:World):Calls Tryz.prog 114 #[.string s] w fun e w'=>e=.returned (iC (some (bK s 1 (en s dg 0) 0 0,en s dg 0)))/\Below w.heap.size w w':=by
 have hx:=fun (w:World)=>ky s h0 w (P:=Tryz.prog) 9 Tryz.underlying9;have q0:(bt s 0 == 126)=false:=beq_eq_false_iff_ne.2 hc;have HA:=ae (fun j (h:j<en s dg 0)=>oK s dg (Nat.zero_le j) h);have fU:=ae (jw s dg (Nat.zero_le _));have HN:=ae (sw s dg (i:=0));obtain ⟨K,hK⟩:∃K,en s dg 0=K:=⟨_,rfl⟩;obtain ⟨PV,fO⟩:∃PV,bK s 1 K 0 0=PV:=⟨_,rfl⟩;have HF:=ae fO;rw [hK,fO] at h3;rw [hK,fO];rw [hK] at HA fU HN h1 h2;have jS:=ae (mX s 1 (by decide) K fun j hj=>HA.out j hj);rw [fO] at jS;have HI:=ae (fun w=>mY PV w (by have:=jS.out;omega) (by have:=jS.out;omega));rw [h3] at HI;have HO:Hid (iC (some (PV,K))=.tuple #[.agg #[.int .i64 4,.string ⟨#[]⟩,.int .i64 PV,.int .i64 0],.int .i64 (K:Nat),.int .i64 0]):=ae rfl;generalize iC (some (PV,K))=OUT at HO ⊢;have kZ:Hid (s.size<9223372036854775807):=ae (h63);have z1:((K:Int) == 0)=false:=beq_eq_false_iff_ne.2 (by omega);have hy:=fun (w:World)=>ky s (by have:=fU.out;omega) w (P:=Tryz.prog) 9 Tryz.underlying9;have hwz:wrap64 ((s.size:Int)-(s.size:Int))=0:=by unfold wrap64;omega
 have hwe:wrap64 (0+(K:Int))=(K:Int):=by have:=fU.out;unfold wrap64;omega
 have hwf:wrap64 (K:Int)=(K:Int):=by have:=fU.out;unfold wrap64;omega
 by_cases z2:1<K
 ·have z3:decide ((K:Int) > 1)=true:=decide_eq_true (Int.ofNat_lt.2 z2);have z4:(bt s 0 == 48)=false:=beq_eq_false_iff_ne.2 (fun h=>h2 ⟨z2,h⟩);clear h2;clear hc hK fO h1;obtain ⟨d,hd⟩:∃d,d=s:=⟨_,rfl⟩;subst hd;go_enter Tryz.func114,Tryz.ntmps114;go_wp2;go_loopw [7,8] (fun n l w'=>∃k:Nat,w'=(wA w).iter d k/\n=.int .i64 (bK d 1 k 0 0)/\l=.int .i64 k/\k<=K) (fun _ _ w'=>d.size-w'.iterPos (w.heap.size+1))
  case atStart=>exact ⟨0,rfl,rfl,rfl,Nat.zero_le _⟩
  case round =>
   obtain ⟨k,rfl,rfl,rfl,hk⟩:=hrel;by_cases dH:k<K
   ·have hd:=kv (HA.out k dH);have hp:k<d.size:=by have:=fU.out;omega
    have hnx:∀ty,(Instr.next (.pointer (some ⟨w.heap.size+1,0,none⟩)) true ty).run Tryz.prog ((wA w).iter d k)=_:=fun ty=>jq w d k hp (by omega) ty;have HD:=ae (gZ (bt d k) ((wA w).iter d (k+1)));rw [HA.out k dH] at HD;have hb:=mX d 1 (by decide) k fun j hj=>HA.out j (by omega);have hs:=oJ d 1 k 0 0;rw [Nat.zero_add] at hs;have HJ:=ae (mY (bK d 1 k 0 0) ((wA w).iter d (k+1)) (by omega) (by omega));have hwl:wrap64 ((k:Int)+1)=((k+1:Nat):Int):=by have:=kZ.out;unfold wrap64;omega
    obtain ⟨V',hV'⟩:∃V',V'=bK d 1 (k+1) 0 0:=⟨_,rfl⟩;rw [<- hV'] at hs;have gm:=ae hV';clear hV' HF;generalize bK d 1 k 0 0=V at *;generalize bt d k=c at *;cases hi:ez V with
    | true =>
     rw [hi,if_pos rfl] at hs;rw [hi] at HJ;have hw1:wrap64 (V*10)=V*10:=by unfold wrap64;omega
     have hw2:IntKind.i32.wrap (c-48)=c-48:=by rw [IntKind.wrap_i32];omega
     have sS:wrap32 (c-48)=c-48:=by unfold wrap32;omega
     have hw3:wrap64 (1*(c-48))=1*(c-48):=by unfold wrap64;omega
     have hw4:wrap64 (V*10+1*(c-48))=V':=by rw [hs];unfold wrap64;omega
     have iG:=ae hw4;clear hd hb hs;go_wp2_with fail;refine HD.out.mono ?_;rintro e u ⟨rfl,rfl⟩;go_wp2_with fail;refine HJ.out.mono ?_;rintro e u ⟨rfl,rfl⟩;go_wp2;go_roundw
     case rel=>exact ⟨k+1,rfl,by rw [<- gm.out,<- iG.out];first|rfl|(congr 1;done)|(congr 1;unfold wrap64;omega),by first|rfl|(congr 1),dH⟩
     case measure=>rw [eB,eB];omega
    | false =>
     rw [hi,if_neg (by decide)] at hs;rw [hi] at HJ;have HS:=ae hs;clear hd hb hs;go_wp2_with fail;refine HD.out.mono ?_;rintro e u ⟨rfl,rfl⟩;go_wp2_with fail;refine HJ.out.mono ?_;rintro e u ⟨rfl,rfl⟩;go_wp2;go_roundw
     case rel=>exact ⟨k+1,rfl,by rw [<- gm.out,HS.out],by first|rfl|(congr 1),dH⟩
     case measure=>rw [eB,eB];omega
   ·obtain rfl:k=K:=by omega
    have gp:=ae (show bK d 1 k 0 0=PV from HF.out);rw [gp.out];clear gp HF;by_cases hp:k<d.size
    ·have key:∃(wd:Nat) (c:Int),(∀ty,(Instr.next (.pointer (some ⟨w.heap.size+1,0,none⟩)) true ty).run Tryz.prog ((wA w).iter d k)=.ok (.tuple #[.bool true,.int .i64 k,.int .i32 c]) ((wA w).iter d (k+wd)))/\dg c=false:=by
      by_cases hb:bt d k<128
      ·exact ⟨1,bt d k,fun ty=>jq w d k hp hb ty,HN.out hp⟩
      ·exact ⟨_,_,fun ty=>rG w d k hp ty,qo (o9 d k hp hb).1⟩
     obtain ⟨wd,c,hnx,fN⟩:=key;have HD:=ae (gZ c ((wA w).iter d (k+wd)));rw [fN] at HD;clear fN HN HA;go_wp2_with fail;refine HD.out.mono ?_;rintro e u ⟨rfl,rfl⟩;obtain ⟨W2,bu,hth,z5,z6,z7,z8,hbl⟩:=((An.start w).on (iB (wA w) d (k+wd))).put (.int .i64 4) (.string ⟨#[]⟩) (.int .i64 PV) (.int .i64 0);have HW2:=ae bu;have aC:=ae hth;have cf:=ae hbl;clear bu hth hbl;go_wp2_with fail;refine (HI.out _).mono ?_;rintro e u ⟨rfl,rfl⟩;go_wp2_with (refine wpList_store_mid rfl 47 (.tmp 2) (.tmp 55) rfl w.heap.size 0 #[.int .i64 4,.string ⟨#[]⟩,.int .i64 PV,.int .i64 0] rfl rfl aC.out fI (by simp [Value.oneCell']) ?_;rw [HW2.out]);refine bodyPost_ret (v:=.tuple #[.agg #[.int .i64 4,.string ⟨#[]⟩,.int .i64 PV,.int .i64 0],.int .i64 (k:Nat),.int .i64 0]) (by simp [results,Tryz.results114,go_sem,z5,z6,z7,z8]) rfl ⟨congrArg _ HO.out.symm,cf.out⟩
    ·have hnx:∀ty,(Instr.next (.pointer (some ⟨w.heap.size+1,0,none⟩)) true ty).run Tryz.prog ((wA w).iter d k)=_:=fun ty=>rH w d k hp ty;clear HN HA;obtain ⟨W2,bu,hth,z5,z6,z7,z8,hbl⟩:=((An.start w).on (iB (wA w) d k)).put (.int .i64 4) (.string ⟨#[]⟩) (.int .i64 PV) (.int .i64 0);have HW2:=ae bu;have aC:=ae hth;have cf:=ae hbl;clear bu hth hbl;go_wp2_with fail;refine (HI.out _).mono ?_;rintro e u ⟨rfl,rfl⟩;go_wp2_with (refine wpList_store_mid rfl 47 (.tmp 2) (.tmp 55) rfl w.heap.size 0 #[.int .i64 4,.string ⟨#[]⟩,.int .i64 PV,.int .i64 0] rfl rfl aC.out fI (by simp [Value.oneCell']) ?_;rw [HW2.out]);refine bodyPost_ret (v:=.tuple #[.agg #[.int .i64 4,.string ⟨#[]⟩,.int .i64 PV,.int .i64 0],.int .i64 (k:Nat),.int .i64 0]) (by simp [results,Tryz.results114,go_sem,z5,z6,z7,z8]) rfl ⟨congrArg _ HO.out.symm,cf.out⟩
 ·have z3:decide ((K:Int) > 1)=false:=decide_eq_false (fun h=>z2 (Int.ofNat_lt.1 h));clear h2;clear hc hK fO h1;obtain ⟨d,hd⟩:∃d,d=s:=⟨_,rfl⟩;subst hd;go_enter Tryz.func114,Tryz.ntmps114;go_wp2;go_loopw [7,8] (fun n l w'=>∃k:Nat,w'=(wA w).iter d k/\n=.int .i64 (bK d 1 k 0 0)/\l=.int .i64 k/\k<=K) (fun _ _ w'=>d.size-w'.iterPos (w.heap.size+1))
  case atStart=>exact ⟨0,rfl,rfl,rfl,Nat.zero_le _⟩
  case round =>
   obtain ⟨k,rfl,rfl,rfl,hk⟩:=hrel;by_cases dH:k<K
   ·have hd:=kv (HA.out k dH);have hp:k<d.size:=by have:=fU.out;omega
    have hnx:∀ty,(Instr.next (.pointer (some ⟨w.heap.size+1,0,none⟩)) true ty).run Tryz.prog ((wA w).iter d k)=_:=fun ty=>jq w d k hp (by omega) ty;have HD:=ae (gZ (bt d k) ((wA w).iter d (k+1)));rw [HA.out k dH] at HD;have hb:=mX d 1 (by decide) k fun j hj=>HA.out j (by omega);have hs:=oJ d 1 k 0 0;rw [Nat.zero_add] at hs;have HJ:=ae (mY (bK d 1 k 0 0) ((wA w).iter d (k+1)) (by omega) (by omega));have hwl:wrap64 ((k:Int)+1)=((k+1:Nat):Int):=by have:=kZ.out;unfold wrap64;omega
    obtain ⟨V',hV'⟩:∃V',V'=bK d 1 (k+1) 0 0:=⟨_,rfl⟩;rw [<- hV'] at hs;have gm:=ae hV';clear hV' HF;generalize bK d 1 k 0 0=V at *;generalize bt d k=c at *;cases hi:ez V with
    | true =>
     rw [hi,if_pos rfl] at hs;rw [hi] at HJ;have hw1:wrap64 (V*10)=V*10:=by unfold wrap64;omega
     have hw2:IntKind.i32.wrap (c-48)=c-48:=by rw [IntKind.wrap_i32];omega
     have sS:wrap32 (c-48)=c-48:=by unfold wrap32;omega
     have hw3:wrap64 (1*(c-48))=1*(c-48):=by unfold wrap64;omega
     have hw4:wrap64 (V*10+1*(c-48))=V':=by rw [hs];unfold wrap64;omega
     have iG:=ae hw4;clear hd hb hs;go_wp2_with fail;refine HD.out.mono ?_;rintro e u ⟨rfl,rfl⟩;go_wp2_with fail;refine HJ.out.mono ?_;rintro e u ⟨rfl,rfl⟩;go_wp2;go_roundw
     case rel=>exact ⟨k+1,rfl,by rw [<- gm.out,<- iG.out];first|rfl|(congr 1;done)|(congr 1;unfold wrap64;omega),by first|rfl|(congr 1),dH⟩
     case measure=>rw [eB,eB];omega
    | false =>
     rw [hi,if_neg (by decide)] at hs;rw [hi] at HJ;have HS:=ae hs;clear hd hb hs;go_wp2_with fail;refine HD.out.mono ?_;rintro e u ⟨rfl,rfl⟩;go_wp2_with fail;refine HJ.out.mono ?_;rintro e u ⟨rfl,rfl⟩;go_wp2;go_roundw
     case rel=>exact ⟨k+1,rfl,by rw [<- gm.out,HS.out],by first|rfl|(congr 1),dH⟩
     case measure=>rw [eB,eB];omega
   ·obtain rfl:k=K:=by omega
    have gp:=ae (show bK d 1 k 0 0=PV from HF.out);rw [gp.out];clear gp HF;by_cases hp:k<d.size
    ·have key:∃(wd:Nat) (c:Int),(∀ty,(Instr.next (.pointer (some ⟨w.heap.size+1,0,none⟩)) true ty).run Tryz.prog ((wA w).iter d k)=.ok (.tuple #[.bool true,.int .i64 k,.int .i32 c]) ((wA w).iter d (k+wd)))/\dg c=false:=by
      by_cases hb:bt d k<128
      ·exact ⟨1,bt d k,fun ty=>jq w d k hp hb ty,HN.out hp⟩
      ·exact ⟨_,_,fun ty=>rG w d k hp ty,qo (o9 d k hp hb).1⟩
     obtain ⟨wd,c,hnx,fN⟩:=key;have HD:=ae (gZ c ((wA w).iter d (k+wd)));rw [fN] at HD;clear fN HN HA;go_wp2_with fail;refine HD.out.mono ?_;rintro e u ⟨rfl,rfl⟩;obtain ⟨W2,bu,hth,z5,z6,z7,z8,hbl⟩:=((An.start w).on (iB (wA w) d (k+wd))).put (.int .i64 4) (.string ⟨#[]⟩) (.int .i64 PV) (.int .i64 0);have HW2:=ae bu;have aC:=ae hth;have cf:=ae hbl;clear bu hth hbl;go_wp2_with fail;refine (HI.out _).mono ?_;rintro e u ⟨rfl,rfl⟩;go_wp2_with (refine wpList_store_mid rfl 47 (.tmp 2) (.tmp 55) rfl w.heap.size 0 #[.int .i64 4,.string ⟨#[]⟩,.int .i64 PV,.int .i64 0] rfl rfl aC.out fI (by simp [Value.oneCell']) ?_;rw [HW2.out]);refine bodyPost_ret (v:=.tuple #[.agg #[.int .i64 4,.string ⟨#[]⟩,.int .i64 PV,.int .i64 0],.int .i64 (k:Nat),.int .i64 0]) (by simp [results,Tryz.results114,go_sem,z5,z6,z7,z8]) rfl ⟨congrArg _ HO.out.symm,cf.out⟩
    ·have hnx:∀ty,(Instr.next (.pointer (some ⟨w.heap.size+1,0,none⟩)) true ty).run Tryz.prog ((wA w).iter d k)=_:=fun ty=>rH w d k hp ty;clear HN HA;obtain ⟨W2,bu,hth,z5,z6,z7,z8,hbl⟩:=((An.start w).on (iB (wA w) d k)).put (.int .i64 4) (.string ⟨#[]⟩) (.int .i64 PV) (.int .i64 0);have HW2:=ae bu;have aC:=ae hth;have cf:=ae hbl;clear bu hth hbl;go_wp2_with fail;refine (HI.out _).mono ?_;rintro e u ⟨rfl,rfl⟩;go_wp2_with (refine wpList_store_mid rfl 47 (.tmp 2) (.tmp 55) rfl w.heap.size 0 #[.int .i64 4,.string ⟨#[]⟩,.int .i64 PV,.int .i64 0] rfl rfl aC.out fI (by simp [Value.oneCell']) ?_;rw [HW2.out]);refine bodyPost_ret (v:=.tuple #[.agg #[.int .i64 4,.string ⟨#[]⟩,.int .i64 PV,.int .i64 0],.int .i64 (k:Nat),.int .i64 0]) (by simp [results,Tryz.results114,go_sem,z5,z6,z7,z8]) rfl ⟨congrArg _ HO.out.symm,cf.out⟩
theorem acn (s:ByteArray) (h0:0<s.size) (h63:s.size<9223372036854775807) (hc:bt s 0=126) (h1:0<en (s.extract 1 s.size) dg 0) (h2:¬ (1<en (s.extract 1 s.size) dg 0/\bt (s.extract 1 s.size) 0=48)) (h3:ez (bK (s.extract 1 s.size) (-1) (en (s.extract 1 s.size) dg 0) 0 0)=true) (w:World):Calls Tryz.prog 114 #[.string s] w fun e w'=>e=.returned (iC (some (bK (s.extract 1 s.size) (-1) (en (s.extract 1 s.size) dg 0) 0 0,1+en (s.extract 1 s.size) dg 0)))/\Below w.heap.size w w':=by
 have hx:=fun (w:World)=>ky s h0 w (P:=Tryz.prog) 9 Tryz.underlying9;have q0:(bt s 0 == 126)=true:=beq_iff_eq.2 hc;have hsz:(s.extract 1 s.size).size=s.size-1:=qJ s 1;have HA:=ae (fun j (h:j<en (s.extract 1 s.size) dg 0)=>oK (s.extract 1 s.size) dg (Nat.zero_le j) h);have fU:=ae (jw (s.extract 1 s.size) dg (Nat.zero_le _));have HN:=ae (sw (s.extract 1 s.size) dg (i:=0));obtain ⟨K,hK⟩:∃K,en (s.extract 1 s.size) dg 0=K:=⟨_,rfl⟩;obtain ⟨PV,fO⟩:∃PV,bK (s.extract 1 s.size) (-1) K 0 0=PV:=⟨_,rfl⟩;have HF:=ae fO;rw [hK,fO] at h3;obtain ⟨E,hE⟩:∃E:Nat,E=1+K:=⟨_,rfl⟩;rw [hK,fO,<- hE];rw [hK] at HA fU HN h1 h2;have jS:=ae (mX (s.extract 1 s.size) (-1) (by decide) K fun j hj=>HA.out j hj);rw [fO] at jS;have HI:=ae (fun w=>mY PV w (by have:=jS.out;omega) (by have:=jS.out;omega));rw [h3] at HI;have HO:Hid (iC (some (PV,E))=.tuple #[.agg #[.int .i64 4,.string ⟨#[]⟩,.int .i64 PV,.int .i64 0],.int .i64 (E:Nat),.int .i64 0]):=ae rfl;generalize iC (some (PV,E))=OUT at HO ⊢;have kZ:Hid ((s.extract 1 s.size).size<9223372036854775807):=ae (aS _ _ hsz h63);have z1:((K:Int) == 0)=false:=beq_eq_false_iff_ne.2 (by omega);have hy:=fun (w:World)=>ky (s.extract 1 s.size) (by have:=fU.out;omega) w (P:=Tryz.prog) 9 Tryz.underlying9;obtain ⟨hwz,aeY⟩:=aZ s.size _ hsz h0 h63;obtain ⟨hwe,aeZ,ae0⟩:=aE K s.size _ E hsz h0 h63 fU.out hE;clear hE;by_cases z2:1<K
 ·have z3:decide ((K:Int) > 1)=true:=decide_eq_true (Int.ofNat_lt.2 z2);have z4:(bt (s.extract 1 s.size) 0 == 48)=false:=beq_eq_false_iff_ne.2 (fun h=>h2 ⟨z2,h⟩);clear h2;clear hc hK fO h1 hsz;go_enter Tryz.func114,Tryz.ntmps114;go_wp2;generalize s.extract 1 s.size=d at *;go_loopw [7,8] (fun n l w'=>∃k:Nat,w'=(wA w).iter d k/\n=.int .i64 (bK d (-1) k 0 0)/\l=.int .i64 k/\k<=K) (fun _ _ w'=>d.size-w'.iterPos (w.heap.size+1))
  case atStart=>exact ⟨0,rfl,rfl,rfl,Nat.zero_le _⟩
  case round =>
   obtain ⟨k,rfl,rfl,rfl,hk⟩:=hrel;by_cases dH:k<K
   ·have hd:=kv (HA.out k dH);have hp:k<d.size:=by have:=fU.out;omega
    have hnx:∀ty,(Instr.next (.pointer (some ⟨w.heap.size+1,0,none⟩)) true ty).run Tryz.prog ((wA w).iter d k)=_:=fun ty=>jq w d k hp (by omega) ty;have HD:=ae (gZ (bt d k) ((wA w).iter d (k+1)));rw [HA.out k dH] at HD;have hb:=mX d (-1) (by decide) k fun j hj=>HA.out j (by omega);have hs:=oJ d (-1) k 0 0;rw [Nat.zero_add] at hs;have HJ:=ae (mY (bK d (-1) k 0 0) ((wA w).iter d (k+1)) (by omega) (by omega));have hwl:wrap64 ((k:Int)+1)=((k+1:Nat):Int):=by have:=kZ.out;unfold wrap64;omega
    obtain ⟨V',hV'⟩:∃V',V'=bK d (-1) (k+1) 0 0:=⟨_,rfl⟩;rw [<- hV'] at hs;have gm:=ae hV';clear hV' HF;generalize bK d (-1) k 0 0=V at *;generalize bt d k=c at *;cases hi:ez V with
    | true =>
     rw [hi,if_pos rfl] at hs;rw [hi] at HJ;have hw1:wrap64 (V*10)=V*10:=by unfold wrap64;omega
     have hw2:IntKind.i32.wrap (c-48)=c-48:=by rw [IntKind.wrap_i32];omega
     have sS:wrap32 (c-48)=c-48:=by unfold wrap32;omega
     have hw3:wrap64 ((-1)*(c-48))=(-1)*(c-48):=by unfold wrap64;omega
     have hw4:wrap64 (V*10+(-1)*(c-48))=V':=by rw [hs];unfold wrap64;omega
     have iG:=ae hw4;clear hd hb hs;go_wp2_with fail;refine HD.out.mono ?_;rintro e u ⟨rfl,rfl⟩;go_wp2_with fail;refine HJ.out.mono ?_;rintro e u ⟨rfl,rfl⟩;go_wp2;go_roundw
     case rel=>exact ⟨k+1,rfl,by rw [<- gm.out,<- iG.out];first|rfl|(congr 1;done)|(congr 1;unfold wrap64;omega),by first|rfl|(congr 1),dH⟩
     case measure=>rw [eB,eB];omega
    | false =>
     rw [hi,if_neg (by decide)] at hs;rw [hi] at HJ;have HS:=ae hs;clear hd hb hs;go_wp2_with fail;refine HD.out.mono ?_;rintro e u ⟨rfl,rfl⟩;go_wp2_with fail;refine HJ.out.mono ?_;rintro e u ⟨rfl,rfl⟩;go_wp2;go_roundw
     case rel=>exact ⟨k+1,rfl,by rw [<- gm.out,HS.out],by first|rfl|(congr 1),dH⟩
     case measure=>rw [eB,eB];omega
   ·obtain rfl:k=K:=by omega
    have gp:=ae (show bK d (-1) k 0 0=PV from HF.out);rw [gp.out];clear gp HF;by_cases hp:k<d.size
    ·have key:∃(wd:Nat) (c:Int),(∀ty,(Instr.next (.pointer (some ⟨w.heap.size+1,0,none⟩)) true ty).run Tryz.prog ((wA w).iter d k)=.ok (.tuple #[.bool true,.int .i64 k,.int .i32 c]) ((wA w).iter d (k+wd)))/\dg c=false:=by
      by_cases hb:bt d k<128
      ·exact ⟨1,bt d k,fun ty=>jq w d k hp hb ty,HN.out hp⟩
      ·exact ⟨_,_,fun ty=>rG w d k hp ty,qo (o9 d k hp hb).1⟩
     obtain ⟨wd,c,hnx,fN⟩:=key;have HD:=ae (gZ c ((wA w).iter d (k+wd)));rw [fN] at HD;clear fN HN HA;go_wp2_with fail;refine HD.out.mono ?_;rintro e u ⟨rfl,rfl⟩;obtain ⟨W2,bu,hth,z5,z6,z7,z8,hbl⟩:=((An.start w).on (iB (wA w) d (k+wd))).put (.int .i64 4) (.string ⟨#[]⟩) (.int .i64 PV) (.int .i64 0);have HW2:=ae bu;have aC:=ae hth;have cf:=ae hbl;clear bu hth hbl;go_wp2_with fail;refine (HI.out _).mono ?_;rintro e u ⟨rfl,rfl⟩;go_wp2_with (refine wpList_store_mid rfl 47 (.tmp 2) (.tmp 55) rfl w.heap.size 0 #[.int .i64 4,.string ⟨#[]⟩,.int .i64 PV,.int .i64 0] rfl rfl aC.out fI (by simp [Value.oneCell']) ?_;rw [HW2.out]);refine bodyPost_ret (v:=.tuple #[.agg #[.int .i64 4,.string ⟨#[]⟩,.int .i64 PV,.int .i64 0],.int .i64 (E:Nat),.int .i64 0]) (by simp [results,Tryz.results114,go_sem,z5,z6,z7,z8]) rfl ⟨congrArg _ HO.out.symm,cf.out⟩
    ·have hnx:∀ty,(Instr.next (.pointer (some ⟨w.heap.size+1,0,none⟩)) true ty).run Tryz.prog ((wA w).iter d k)=_:=fun ty=>rH w d k hp ty;clear HN HA;obtain ⟨W2,bu,hth,z5,z6,z7,z8,hbl⟩:=((An.start w).on (iB (wA w) d k)).put (.int .i64 4) (.string ⟨#[]⟩) (.int .i64 PV) (.int .i64 0);have HW2:=ae bu;have aC:=ae hth;have cf:=ae hbl;clear bu hth hbl;go_wp2_with fail;refine (HI.out _).mono ?_;rintro e u ⟨rfl,rfl⟩;go_wp2_with (refine wpList_store_mid rfl 47 (.tmp 2) (.tmp 55) rfl w.heap.size 0 #[.int .i64 4,.string ⟨#[]⟩,.int .i64 PV,.int .i64 0] rfl rfl aC.out fI (by simp [Value.oneCell']) ?_;rw [HW2.out]);refine bodyPost_ret (v:=.tuple #[.agg #[.int .i64 4,.string ⟨#[]⟩,.int .i64 PV,.int .i64 0],.int .i64 (E:Nat),.int .i64 0]) (by simp [results,Tryz.results114,go_sem,z5,z6,z7,z8]) rfl ⟨congrArg _ HO.out.symm,cf.out⟩
 ·have z3:decide ((K:Int) > 1)=false:=decide_eq_false (fun h=>z2 (Int.ofNat_lt.1 h));clear h2;clear hc hK fO h1 hsz;go_enter Tryz.func114,Tryz.ntmps114;go_wp2;generalize s.extract 1 s.size=d at *;go_loopw [7,8] (fun n l w'=>∃k:Nat,w'=(wA w).iter d k/\n=.int .i64 (bK d (-1) k 0 0)/\l=.int .i64 k/\k<=K) (fun _ _ w'=>d.size-w'.iterPos (w.heap.size+1))
  case atStart=>exact ⟨0,rfl,rfl,rfl,Nat.zero_le _⟩
  case round =>
   obtain ⟨k,rfl,rfl,rfl,hk⟩:=hrel;by_cases dH:k<K
   ·have hd:=kv (HA.out k dH);have hp:k<d.size:=by have:=fU.out;omega
    have hnx:∀ty,(Instr.next (.pointer (some ⟨w.heap.size+1,0,none⟩)) true ty).run Tryz.prog ((wA w).iter d k)=_:=fun ty=>jq w d k hp (by omega) ty;have HD:=ae (gZ (bt d k) ((wA w).iter d (k+1)));rw [HA.out k dH] at HD;have hb:=mX d (-1) (by decide) k fun j hj=>HA.out j (by omega);have hs:=oJ d (-1) k 0 0;rw [Nat.zero_add] at hs;have HJ:=ae (mY (bK d (-1) k 0 0) ((wA w).iter d (k+1)) (by omega) (by omega));have hwl:wrap64 ((k:Int)+1)=((k+1:Nat):Int):=by have:=kZ.out;unfold wrap64;omega
    obtain ⟨V',hV'⟩:∃V',V'=bK d (-1) (k+1) 0 0:=⟨_,rfl⟩;rw [<- hV'] at hs;have gm:=ae hV';clear hV' HF;generalize bK d (-1) k 0 0=V at *;generalize bt d k=c at *;cases hi:ez V with
    | true =>
     rw [hi,if_pos rfl] at hs;rw [hi] at HJ;have hw1:wrap64 (V*10)=V*10:=by unfold wrap64;omega
     have hw2:IntKind.i32.wrap (c-48)=c-48:=by rw [IntKind.wrap_i32];omega
     have sS:wrap32 (c-48)=c-48:=by unfold wrap32;omega
     have hw3:wrap64 ((-1)*(c-48))=(-1)*(c-48):=by unfold wrap64;omega
     have hw4:wrap64 (V*10+(-1)*(c-48))=V':=by rw [hs];unfold wrap64;omega
     have iG:=ae hw4;clear hd hb hs;go_wp2_with fail;refine HD.out.mono ?_;rintro e u ⟨rfl,rfl⟩;go_wp2_with fail;refine HJ.out.mono ?_;rintro e u ⟨rfl,rfl⟩;go_wp2;go_roundw
     case rel=>exact ⟨k+1,rfl,by rw [<- gm.out,<- iG.out];first|rfl|(congr 1;done)|(congr 1;unfold wrap64;omega),by first|rfl|(congr 1),dH⟩
     case measure=>rw [eB,eB];omega
    | false =>
     rw [hi,if_neg (by decide)] at hs;rw [hi] at HJ;have HS:=ae hs;clear hd hb hs;go_wp2_with fail;refine HD.out.mono ?_;rintro e u ⟨rfl,rfl⟩;go_wp2_with fail;refine HJ.out.mono ?_;rintro e u ⟨rfl,rfl⟩;go_wp2;go_roundw
     case rel=>exact ⟨k+1,rfl,by rw [<- gm.out,HS.out],by first|rfl|(congr 1),dH⟩
     case measure=>rw [eB,eB];omega
   ·obtain rfl:k=K:=by omega
    have gp:=ae (show bK d (-1) k 0 0=PV from HF.out);rw [gp.out];clear gp HF;by_cases hp:k<d.size
    ·have key:∃(wd:Nat) (c:Int),(∀ty,(Instr.next (.pointer (some ⟨w.heap.size+1,0,none⟩)) true ty).run Tryz.prog ((wA w).iter d k)=.ok (.tuple #[.bool true,.int .i64 k,.int .i32 c]) ((wA w).iter d (k+wd)))/\dg c=false:=by
      by_cases hb:bt d k<128
      ·exact ⟨1,bt d k,fun ty=>jq w d k hp hb ty,HN.out hp⟩
      ·exact ⟨_,_,fun ty=>rG w d k hp ty,qo (o9 d k hp hb).1⟩
     obtain ⟨wd,c,hnx,fN⟩:=key;have HD:=ae (gZ c ((wA w).iter d (k+wd)));rw [fN] at HD;clear fN HN HA;go_wp2_with fail;refine HD.out.mono ?_;rintro e u ⟨rfl,rfl⟩;obtain ⟨W2,bu,hth,z5,z6,z7,z8,hbl⟩:=((An.start w).on (iB (wA w) d (k+wd))).put (.int .i64 4) (.string ⟨#[]⟩) (.int .i64 PV) (.int .i64 0);have HW2:=ae bu;have aC:=ae hth;have cf:=ae hbl;clear bu hth hbl;go_wp2_with fail;refine (HI.out _).mono ?_;rintro e u ⟨rfl,rfl⟩;go_wp2_with (refine wpList_store_mid rfl 47 (.tmp 2) (.tmp 55) rfl w.heap.size 0 #[.int .i64 4,.string ⟨#[]⟩,.int .i64 PV,.int .i64 0] rfl rfl aC.out fI (by simp [Value.oneCell']) ?_;rw [HW2.out]);refine bodyPost_ret (v:=.tuple #[.agg #[.int .i64 4,.string ⟨#[]⟩,.int .i64 PV,.int .i64 0],.int .i64 (E:Nat),.int .i64 0]) (by simp [results,Tryz.results114,go_sem,z5,z6,z7,z8]) rfl ⟨congrArg _ HO.out.symm,cf.out⟩
    ·have hnx:∀ty,(Instr.next (.pointer (some ⟨w.heap.size+1,0,none⟩)) true ty).run Tryz.prog ((wA w).iter d k)=_:=fun ty=>rH w d k hp ty;clear HN HA;obtain ⟨W2,bu,hth,z5,z6,z7,z8,hbl⟩:=((An.start w).on (iB (wA w) d k)).put (.int .i64 4) (.string ⟨#[]⟩) (.int .i64 PV) (.int .i64 0);have HW2:=ae bu;have aC:=ae hth;have cf:=ae hbl;clear bu hth hbl;go_wp2_with fail;refine (HI.out _).mono ?_;rintro e u ⟨rfl,rfl⟩;go_wp2_with (refine wpList_store_mid rfl 47 (.tmp 2) (.tmp 55) rfl w.heap.size 0 #[.int .i64 4,.string ⟨#[]⟩,.int .i64 PV,.int .i64 0] rfl rfl aC.out fI (by simp [Value.oneCell']) ?_;rw [HW2.out]);refine bodyPost_ret (v:=.tuple #[.agg #[.int .i64 4,.string ⟨#[]⟩,.int .i64 PV,.int .i64 0],.int .i64 (E:Nat),.int .i64 0]) (by simp [results,Tryz.results114,go_sem,z5,z6,z7,z8]) rfl ⟨congrArg _ HO.out.symm,cf.out⟩
theorem O3 (s:ByteArray):s.extract 0 s.size=s:=by simp
theorem TJ (s:ByteArray) (h0:0<s.size) (h63:s.size<9223372036854775807) (w:World):Calls Tryz.prog 114 #[.string s] w fun e w'=>e=.returned (iC (num s 0 (if bt s 0=126 then 1 else 0)))/\Below w.heap.size w w':=by
 by_cases hc:bt s 0=126
 ·rw [if_pos hc,E8 s 0 1 h0,if_pos (by decide)];unfold CJ;by_cases h1:en (s.extract 1 s.size) dg 0=0
  ·rw [if_pos (.inl h1)];exact acg s h0 h63 hc h1 w
  ·by_cases h2:1<en (s.extract 1 s.size) dg 0/\bt (s.extract 1 s.size) 0=48
   ·rw [if_pos (.inr (.inl h2))];exact aci s h0 h63 hc h2.1 h2.2 w
   ·cases h3:ez (bK (s.extract 1 s.size) (-1) (en (s.extract 1 s.size) dg 0) 0 0) with
    | false=>rw [if_pos (.inr (.inr rfl))];exact ack s h0 h63 hc (by omega) h2 h3 w
    | true=>rw [if_neg (by rintro (h|h|h);exact h1 h;exact h2 h;cases h)];exact acn s h0 h63 hc (by omega) h2 h3 w
 ·rw [if_neg hc,E8 s 0 0 (Nat.zero_le _),if_neg (by decide),O3];unfold CJ;by_cases h1:en s dg 0=0
  ·rw [if_pos (.inl h1)];exact acf s h0 h63 hc h1 w
  ·by_cases h2:1<en s dg 0/\bt s 0=48
   ·rw [if_pos (.inr (.inl h2))];exact ach s h0 h63 hc h2.1 h2.2 w
   ·cases h3:ez (bK s 1 (en s dg 0) 0 0) with
    | false=>rw [if_pos (.inr (.inr rfl))];exact acj s h0 h63 hc (by omega) h2 h3 w
    | true=>rw [if_neg (by rintro (h|h|h);exact h1 h;exact h2 h;cases h)];simp only [Option.map,Nat.zero_add];exact acm s h0 h63 hc (by omega) h2 h3 w
end Go.Proofs.YtkdbgopgjbfhbaaGreatDoor
