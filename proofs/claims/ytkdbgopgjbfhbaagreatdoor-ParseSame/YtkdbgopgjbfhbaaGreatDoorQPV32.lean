/- Texts that the claim needs. -/
import Derived.Test.YtkdbgopgjbfhbaaGreatDoorQPV1
namespace Go.Proofs.YtkdbgopgjbfhbaaGreatDoor
open Go.RowKit Lx
set_option linter.unusedVariables false
set_option maxRecDepth 100000
set_option maxHeartbeats 8000000
namespace Lx
def ik:Option (Int × Nat)->Value
 | some (n,e)=>.tuple #[.agg #[.int .i64 4,.string ⟨#[]⟩,.int .i64 n,.int .i64 0],.int .i64 e,.int .i64 0]
 | none=>.tuple #[.agg #[.int .i64 0,.string ⟨#[]⟩,.int .i64 0,.int .i64 0],.int .i64 0,.int .i64 110]
theorem mi (d:ByteArray) (u:Int) (hu:u=1\/u=-1) (k:Nat) (hd:∀j,j<k->dg (bt d j)=true):-20000000000<=bJ d u k 0 0/\bJ d u k 0 0<=20000000000:=by
 induction k with
 | zero=>exact ⟨by show (-20000000000:Int)<=0;decide,by show (0:Int)<=20000000000;decide⟩
 | succ k ih =>
  have ih:=ih fun j hj=>hd j (by omega);have hb:=jX (hd k (by omega));rw [nK,Nat.zero_add];generalize bJ d u k 0 0=n at *;split
  ·rename_i h;unfold ez at h;rw [Bool.and_eq_true,decide_eq_true_eq,decide_eq_true_eq] at h;rcases hu with rfl|rfl<;>omega
  ·exact ih
theorem jo {P:Program} (w:World) (s:ByteArray) (pos:Nat) (h:pos<s.size) (hb:bt s pos<128) (ty:TypeId) :
  (Instr.next (.pointer (some ⟨w.heap.size+1,0,none⟩)) true ty).run P ((wA w).iter s pos)=.ok (.tuple #[.bool true,.int .i64 pos,.int .i32 (bt s pos)]) ((wA w).iter s (pos+1)):=by
 have:=Kj (P:=P) (wA w) s pos h hb ty
 rwa [show (wA w).heap.size=w.heap.size+1 by unfold wA;simp] at this
theorem qH {P:Program} (w:World) (s:ByteArray) (pos:Nat) (h:pos<s.size) (ty:TypeId) :
  (Instr.next (.pointer (some ⟨w.heap.size+1,0,none⟩)) true ty).run P ((wA w).iter s pos)=.ok (.tuple #[.bool true,.int .i64 pos,.int .i32 (Utf8.decode s pos).1]) ((wA w).iter s (pos+(Utf8.decode s pos).2)):=by
 have:=run_next_any (P:=P) (wA w) s pos ty h
 rwa [show (wA w).heap.size=w.heap.size+1 by unfold wA;simp] at this
theorem qI {P:Program} (w:World) (s:ByteArray) (pos:Nat) (h:¬ pos<s.size) (ty:TypeId) :
  (Instr.next (.pointer (some ⟨w.heap.size+1,0,none⟩)) true ty).run P ((wA w).iter s pos)=.ok (.tuple #[.bool false]) ((wA w).iter s pos):=by
 have:=run_next_end (P:=P) (wA w) s pos ty h
 rwa [show (wA w).heap.size=w.heap.size+1 by unfold wA;simp] at this
theorem eD (w:World) (s:ByteArray) (p:Nat):((wA w).iter s p).iterPos (w.heap.size+1)=p:=by
 have:=World.iterPos_iter (wA w) s p
 rwa [show (wA w).heap.size=w.heap.size+1 by unfold wA;simp] at this
theorem aZ (n m:Nat) (h:m=n-1) (h0:0<n) (hn:n<9223372036854775807):wrap64 ((n:Int)-(m:Int))=1/\(n:Int)-(m:Int)=1:=by subst h;unfold wrap64;omega
theorem aE (K n m E:Nat) (hm:m=n-1) (h0:0<n) (hn:n<9223372036854775807) (h:K<=m) (hE:E=1+K):wrap64 (1+(K:Int))=(E:Int)/\1+(K:Int)=(E:Int)/\wrap64 (E:Int)=(E:Int):=by subst hE;unfold wrap64;omega
theorem aS (n m:Nat) (hm:m=n-1) (hn:n<9223372036854775807):m<9223372036854775807:=by omega
theorem jZ (s:ByteArray) (hi:0<s.size) (w:World) {P:Program} (t:TypeId) (h:P.underlying t=some .string):(Instr.index t (.string s) (.int .i64 0)).run P w=.ok (.int .u8 (bt s 0)) w:=QV s 0 hi w t h
end Lx
theorem aaY (s:ByteArray) (h0:0<s.size) (h63:s.size<9223372036854775807) (hc:bt s 0≠126) (h1:en s dg 0=0) (w:World):Calls Tryz.prog 114 #[.string s] w fun e w'=>e=.returned (ik (none))/\Below w.heap.size w w':=by
 have hx:=fun (w:World)=>jZ s h0 w (P:=Tryz.prog) 9 Tryz.underlying9;have q0:(bt s 0 == 126)=false:=beq_eq_false_iff_ne.2 hc;have HA:=ae (fun j (h:j<en s dg 0)=>p9 s dg (Nat.zero_le j) h);have fK:=ae (kJ s dg (Nat.zero_le _));have HN:=ae (uM s dg (i:=0));obtain ⟨K,hK⟩:∃K,en s dg 0=K:=⟨_,rfl⟩;obtain ⟨PV,fJ⟩:∃PV,bJ s 1 K 0 0=PV:=⟨_,rfl⟩;have HF:=ae fJ;rw [hK] at HA fK HN h1;have HO:Hid (ik (none)=.tuple #[.agg #[.int .i64 0,.string ⟨#[]⟩,.int .i64 0,.int .i64 0],.int .i64 0,.int .i64 110]):=ae rfl;generalize ik (none)=OUT at HO ⊢;have kO:Hid (s.size<9223372036854775807):=ae (h63);have z1:((K:Int) == 0)=true:=beq_iff_eq.2 (by omega);clear hc hK fJ h1;obtain ⟨d,hd⟩:∃d,d=s:=⟨_,rfl⟩;subst hd;go_enter Tryz.func114,Tryz.ntmps114;go_wp2;go_loopw [7,8] (fun n l w'=>∃k:Nat,w'=(wA w).iter d k/\n=.int .i64 (bJ d 1 k 0 0)/\l=.int .i64 k/\k<=K) (fun _ _ w'=>d.size-w'.iterPos (w.heap.size+1))
 case atStart=>exact ⟨0,rfl,rfl,rfl,Nat.zero_le _⟩
 case round =>
  obtain ⟨k,rfl,rfl,rfl,hk⟩:=hrel;by_cases dE:k<K
  ·have hd:=jX (HA.out k dE);have hp:k<d.size:=by have:=fK.out;omega
   have hnx:∀ty,(Instr.next (.pointer (some ⟨w.heap.size+1,0,none⟩)) true ty).run Tryz.prog ((wA w).iter d k)=_:=fun ty=>jo w d k hp (by omega) ty;have HD:=ae (gK (bt d k) ((wA w).iter d (k+1)));rw [HA.out k dE] at HD;have hb:=mi d 1 (by decide) k fun j hj=>HA.out j (by omega);have hs:=nK d 1 k 0 0;rw [Nat.zero_add] at hs;have HJ:=ae (mo (bJ d 1 k 0 0) ((wA w).iter d (k+1)) (by omega) (by omega));have hwl:wrap64 ((k:Int)+1)=((k+1:Nat):Int):=by have:=kO.out;unfold wrap64;omega
   obtain ⟨V',hV'⟩:∃V',V'=bJ d 1 (k+1) 0 0:=⟨_,rfl⟩;rw [<- hV'] at hs;have fR:=ae hV';clear hV' HF;generalize bJ d 1 k 0 0=V at *;generalize bt d k=c at *;cases hi:ez V with
   | true =>
    rw [hi,if_pos rfl] at hs;rw [hi] at HJ;have hw1:wrap64 (V*10)=V*10:=by unfold wrap64;omega
    have hw2:IntKind.i32.wrap (c-48)=c-48:=by rw [IntKind.wrap_i32];omega
    have sj:wrap32 (c-48)=c-48:=by unfold wrap32;omega
    have hw3:wrap64 (1*(c-48))=1*(c-48):=by unfold wrap64;omega
    have hw4:wrap64 (V*10+1*(c-48))=V':=by rw [hs];unfold wrap64;omega
    have ja:=ae hw4;clear hd hb hs;go_wp2_with fail;refine HD.out.mono ?_;rintro e u ⟨rfl,rfl⟩;go_wp2_with fail;refine HJ.out.mono ?_;rintro e u ⟨rfl,rfl⟩;go_wp2;go_roundw
    case rel=>exact ⟨k+1,rfl,by rw [<- fR.out,<- ja.out];first|rfl|(congr 1;done)|(congr 1;unfold wrap64;omega),by first|rfl|(congr 1),dE⟩
    case measure=>rw [eD,eD];omega
   | false =>
    rw [hi,if_neg (by decide)] at hs;rw [hi] at HJ;have HS:=ae hs;clear hd hb hs;go_wp2_with fail;refine HD.out.mono ?_;rintro e u ⟨rfl,rfl⟩;go_wp2_with fail;refine HJ.out.mono ?_;rintro e u ⟨rfl,rfl⟩;go_wp2;go_roundw
    case rel=>exact ⟨k+1,rfl,by rw [<- fR.out,HS.out],by first|rfl|(congr 1),dE⟩
    case measure=>rw [eD,eD];omega
  ·obtain rfl:k=K:=by omega
   have fS:=ae (show bJ d 1 k 0 0=PV from HF.out);rw [fS.out];clear fS HF;by_cases hp:k<d.size
   ·have key:∃(wd:Nat) (c:Int),(∀ty,(Instr.next (.pointer (some ⟨w.heap.size+1,0,none⟩)) true ty).run Tryz.prog ((wA w).iter d k)=.ok (.tuple #[.bool true,.int .i64 k,.int .i32 c]) ((wA w).iter d (k+wd)))/\dg c=false:=by
     by_cases hb:bt d k<128
     ·exact ⟨1,bt d k,fun ty=>jo w d k hp hb ty,HN.out hp⟩
     ·exact ⟨_,_,fun ty=>qH w d k hp ty,pK (nU d k hp hb).1⟩
    obtain ⟨wd,c,hnx,fI⟩:=key;have HD:=ae (gK c ((wA w).iter d (k+wd)));rw [fI] at HD;clear fI HN HA;go_wp2_with fail;refine HD.out.mono ?_;rintro e u ⟨rfl,rfl⟩;obtain ⟨W2,aY,hth,z5,z6,z7,z8,hbl⟩:=((An.start w).on (ij (wA w) d (k+wd))).put (.int .i64 0) (.string ⟨#[]⟩) (.int .i64 0) (.int .i64 0);have HW2:=ae aY;have az:=ae hth;have ck:=ae hbl;clear aY hth hbl;go_wp2_with (refine wpList_store_mid rfl 47 (.tmp 2) (.tmp 53) rfl w.heap.size 0 #[.int .i64 0,.string ⟨#[]⟩,.int .i64 0,.int .i64 0] rfl rfl az.out fB (by simp [Value.oneCell']) ?_;rw [HW2.out]);refine bodyPost_ret (v:=.tuple #[.agg #[.int .i64 0,.string ⟨#[]⟩,.int .i64 0,.int .i64 0],.int .i64 0,.int .i64 110]) (by simp [results,Tryz.results114,go_sem,z5,z6,z7,z8]) rfl ⟨congrArg _ HO.out.symm,ck.out⟩
   ·have hnx:∀ty,(Instr.next (.pointer (some ⟨w.heap.size+1,0,none⟩)) true ty).run Tryz.prog ((wA w).iter d k)=_:=fun ty=>qI w d k hp ty;clear HN HA;obtain ⟨W2,aY,hth,z5,z6,z7,z8,hbl⟩:=((An.start w).on (ij (wA w) d k)).put (.int .i64 0) (.string ⟨#[]⟩) (.int .i64 0) (.int .i64 0);have HW2:=ae aY;have az:=ae hth;have ck:=ae hbl;clear aY hth hbl;go_wp2_with (refine wpList_store_mid rfl 47 (.tmp 2) (.tmp 53) rfl w.heap.size 0 #[.int .i64 0,.string ⟨#[]⟩,.int .i64 0,.int .i64 0] rfl rfl az.out fB (by simp [Value.oneCell']) ?_;rw [HW2.out]);refine bodyPost_ret (v:=.tuple #[.agg #[.int .i64 0,.string ⟨#[]⟩,.int .i64 0,.int .i64 0],.int .i64 0,.int .i64 110]) (by simp [results,Tryz.results114,go_sem,z5,z6,z7,z8]) rfl ⟨congrArg _ HO.out.symm,ck.out⟩
theorem aaZ (s:ByteArray) (h0:0<s.size) (h63:s.size<9223372036854775807) (hc:bt s 0=126) (h1:en (s.extract 1 s.size) dg 0=0) (w:World):Calls Tryz.prog 114 #[.string s] w fun e w'=>e=.returned (ik (none))/\Below w.heap.size w w':=by
 have hx:=fun (w:World)=>jZ s h0 w (P:=Tryz.prog) 9 Tryz.underlying9;have q0:(bt s 0 == 126)=true:=beq_iff_eq.2 hc;have hsz:(s.extract 1 s.size).size=s.size-1:=qb s 1;have HA:=ae (fun j (h:j<en (s.extract 1 s.size) dg 0)=>p9 (s.extract 1 s.size) dg (Nat.zero_le j) h);have fK:=ae (kJ (s.extract 1 s.size) dg (Nat.zero_le _));have HN:=ae (uM (s.extract 1 s.size) dg (i:=0));obtain ⟨K,hK⟩:∃K,en (s.extract 1 s.size) dg 0=K:=⟨_,rfl⟩;obtain ⟨PV,fJ⟩:∃PV,bJ (s.extract 1 s.size) (-1) K 0 0=PV:=⟨_,rfl⟩;have HF:=ae fJ;rw [hK] at HA fK HN h1;have HO:Hid (ik (none)=.tuple #[.agg #[.int .i64 0,.string ⟨#[]⟩,.int .i64 0,.int .i64 0],.int .i64 0,.int .i64 110]):=ae rfl;generalize ik (none)=OUT at HO ⊢;have kO:Hid ((s.extract 1 s.size).size<9223372036854775807):=ae (aS _ _ hsz h63);have z1:((K:Int) == 0)=true:=beq_iff_eq.2 (by omega);clear hc hK fJ h1 hsz;go_enter Tryz.func114,Tryz.ntmps114;go_wp2;generalize s.extract 1 s.size=d at *;go_loopw [7,8] (fun n l w'=>∃k:Nat,w'=(wA w).iter d k/\n=.int .i64 (bJ d (-1) k 0 0)/\l=.int .i64 k/\k<=K) (fun _ _ w'=>d.size-w'.iterPos (w.heap.size+1))
 case atStart=>exact ⟨0,rfl,rfl,rfl,Nat.zero_le _⟩
 case round =>
  obtain ⟨k,rfl,rfl,rfl,hk⟩:=hrel;by_cases dE:k<K
  ·have hd:=jX (HA.out k dE);have hp:k<d.size:=by have:=fK.out;omega
   have hnx:∀ty,(Instr.next (.pointer (some ⟨w.heap.size+1,0,none⟩)) true ty).run Tryz.prog ((wA w).iter d k)=_:=fun ty=>jo w d k hp (by omega) ty;have HD:=ae (gK (bt d k) ((wA w).iter d (k+1)));rw [HA.out k dE] at HD;have hb:=mi d (-1) (by decide) k fun j hj=>HA.out j (by omega);have hs:=nK d (-1) k 0 0;rw [Nat.zero_add] at hs;have HJ:=ae (mo (bJ d (-1) k 0 0) ((wA w).iter d (k+1)) (by omega) (by omega));have hwl:wrap64 ((k:Int)+1)=((k+1:Nat):Int):=by have:=kO.out;unfold wrap64;omega
   obtain ⟨V',hV'⟩:∃V',V'=bJ d (-1) (k+1) 0 0:=⟨_,rfl⟩;rw [<- hV'] at hs;have fR:=ae hV';clear hV' HF;generalize bJ d (-1) k 0 0=V at *;generalize bt d k=c at *;cases hi:ez V with
   | true =>
    rw [hi,if_pos rfl] at hs;rw [hi] at HJ;have hw1:wrap64 (V*10)=V*10:=by unfold wrap64;omega
    have hw2:IntKind.i32.wrap (c-48)=c-48:=by rw [IntKind.wrap_i32];omega
    have sj:wrap32 (c-48)=c-48:=by unfold wrap32;omega
    have hw3:wrap64 ((-1)*(c-48))=(-1)*(c-48):=by unfold wrap64;omega
    have hw4:wrap64 (V*10+(-1)*(c-48))=V':=by rw [hs];unfold wrap64;omega
    have ja:=ae hw4;clear hd hb hs;go_wp2_with fail;refine HD.out.mono ?_;rintro e u ⟨rfl,rfl⟩;go_wp2_with fail;refine HJ.out.mono ?_;rintro e u ⟨rfl,rfl⟩;go_wp2;go_roundw
    case rel=>exact ⟨k+1,rfl,by rw [<- fR.out,<- ja.out];first|rfl|(congr 1;done)|(congr 1;unfold wrap64;omega),by first|rfl|(congr 1),dE⟩
    case measure=>rw [eD,eD];omega
   | false =>
    rw [hi,if_neg (by decide)] at hs;rw [hi] at HJ;have HS:=ae hs;clear hd hb hs;go_wp2_with fail;refine HD.out.mono ?_;rintro e u ⟨rfl,rfl⟩;go_wp2_with fail;refine HJ.out.mono ?_;rintro e u ⟨rfl,rfl⟩;go_wp2;go_roundw
    case rel=>exact ⟨k+1,rfl,by rw [<- fR.out,HS.out],by first|rfl|(congr 1),dE⟩
    case measure=>rw [eD,eD];omega
  ·obtain rfl:k=K:=by omega
   have fS:=ae (show bJ d (-1) k 0 0=PV from HF.out);rw [fS.out];clear fS HF;by_cases hp:k<d.size
   ·have key:∃(wd:Nat) (c:Int),(∀ty,(Instr.next (.pointer (some ⟨w.heap.size+1,0,none⟩)) true ty).run Tryz.prog ((wA w).iter d k)=.ok (.tuple #[.bool true,.int .i64 k,.int .i32 c]) ((wA w).iter d (k+wd)))/\dg c=false:=by
     by_cases hb:bt d k<128
     ·exact ⟨1,bt d k,fun ty=>jo w d k hp hb ty,HN.out hp⟩
     ·exact ⟨_,_,fun ty=>qH w d k hp ty,pK (nU d k hp hb).1⟩
    obtain ⟨wd,c,hnx,fI⟩:=key;have HD:=ae (gK c ((wA w).iter d (k+wd)));rw [fI] at HD;clear fI HN HA;go_wp2_with fail;refine HD.out.mono ?_;rintro e u ⟨rfl,rfl⟩;obtain ⟨W2,aY,hth,z5,z6,z7,z8,hbl⟩:=((An.start w).on (ij (wA w) d (k+wd))).put (.int .i64 0) (.string ⟨#[]⟩) (.int .i64 0) (.int .i64 0);have HW2:=ae aY;have az:=ae hth;have ck:=ae hbl;clear aY hth hbl;go_wp2_with (refine wpList_store_mid rfl 47 (.tmp 2) (.tmp 53) rfl w.heap.size 0 #[.int .i64 0,.string ⟨#[]⟩,.int .i64 0,.int .i64 0] rfl rfl az.out fB (by simp [Value.oneCell']) ?_;rw [HW2.out]);refine bodyPost_ret (v:=.tuple #[.agg #[.int .i64 0,.string ⟨#[]⟩,.int .i64 0,.int .i64 0],.int .i64 0,.int .i64 110]) (by simp [results,Tryz.results114,go_sem,z5,z6,z7,z8]) rfl ⟨congrArg _ HO.out.symm,ck.out⟩
   ·have hnx:∀ty,(Instr.next (.pointer (some ⟨w.heap.size+1,0,none⟩)) true ty).run Tryz.prog ((wA w).iter d k)=_:=fun ty=>qI w d k hp ty;clear HN HA;obtain ⟨W2,aY,hth,z5,z6,z7,z8,hbl⟩:=((An.start w).on (ij (wA w) d k)).put (.int .i64 0) (.string ⟨#[]⟩) (.int .i64 0) (.int .i64 0);have HW2:=ae aY;have az:=ae hth;have ck:=ae hbl;clear aY hth hbl;go_wp2_with (refine wpList_store_mid rfl 47 (.tmp 2) (.tmp 53) rfl w.heap.size 0 #[.int .i64 0,.string ⟨#[]⟩,.int .i64 0,.int .i64 0] rfl rfl az.out fB (by simp [Value.oneCell']) ?_;rw [HW2.out]);refine bodyPost_ret (v:=.tuple #[.agg #[.int .i64 0,.string ⟨#[]⟩,.int .i64 0,.int .i64 0],.int .i64 0,.int .i64 110]) (by simp [results,Tryz.results114,go_sem,z5,z6,z7,z8]) rfl ⟨congrArg _ HO.out.symm,ck.out⟩
theorem aa0 (s:ByteArray) (h0:0<s.size) (h63:s.size<9223372036854775807) (hc:bt s 0≠126) (h1:1<en s dg 0) (h2:bt s 0=48) (w:World):Calls Tryz.prog 114 #[.string s] w fun e w'=>e=.returned (ik (none))/\Below w.heap.size w w':=by
 have hx:=fun (w:World)=>jZ s h0 w (P:=Tryz.prog) 9 Tryz.underlying9;have q0:(bt s 0 == 126)=false:=beq_eq_false_iff_ne.2 hc;have HA:=ae (fun j (h:j<en s dg 0)=>p9 s dg (Nat.zero_le j) h);have fK:=ae (kJ s dg (Nat.zero_le _));have HN:=ae (uM s dg (i:=0));obtain ⟨K,hK⟩:∃K,en s dg 0=K:=⟨_,rfl⟩;obtain ⟨PV,fJ⟩:∃PV,bJ s 1 K 0 0=PV:=⟨_,rfl⟩;have HF:=ae fJ;rw [hK] at HA fK HN h1;have HO:Hid (ik (none)=.tuple #[.agg #[.int .i64 0,.string ⟨#[]⟩,.int .i64 0,.int .i64 0],.int .i64 0,.int .i64 110]):=ae rfl;generalize ik (none)=OUT at HO ⊢;have kO:Hid (s.size<9223372036854775807):=ae (h63);have z1:((K:Int) == 0)=false:=beq_eq_false_iff_ne.2 (by omega);have z2:decide ((K:Int) > 1)=true:=decide_eq_true (by omega);have z3:1<K:=h1;have z4:(bt s 0 == 48)=true:=beq_iff_eq.2 h2;have hy:=fun (w:World)=>jZ s (by have:=fK.out;omega) w (P:=Tryz.prog) 9 Tryz.underlying9;clear hc hK fJ h1;obtain ⟨d,hd⟩:∃d,d=s:=⟨_,rfl⟩;subst hd;go_enter Tryz.func114,Tryz.ntmps114;go_wp2;go_loopw [7,8] (fun n l w'=>∃k:Nat,w'=(wA w).iter d k/\n=.int .i64 (bJ d 1 k 0 0)/\l=.int .i64 k/\k<=K) (fun _ _ w'=>d.size-w'.iterPos (w.heap.size+1))
 case atStart=>exact ⟨0,rfl,rfl,rfl,Nat.zero_le _⟩
 case round =>
  obtain ⟨k,rfl,rfl,rfl,hk⟩:=hrel;by_cases dE:k<K
  ·have hd:=jX (HA.out k dE);have hp:k<d.size:=by have:=fK.out;omega
   have hnx:∀ty,(Instr.next (.pointer (some ⟨w.heap.size+1,0,none⟩)) true ty).run Tryz.prog ((wA w).iter d k)=_:=fun ty=>jo w d k hp (by omega) ty;have HD:=ae (gK (bt d k) ((wA w).iter d (k+1)));rw [HA.out k dE] at HD;have hb:=mi d 1 (by decide) k fun j hj=>HA.out j (by omega);have hs:=nK d 1 k 0 0;rw [Nat.zero_add] at hs;have HJ:=ae (mo (bJ d 1 k 0 0) ((wA w).iter d (k+1)) (by omega) (by omega));have hwl:wrap64 ((k:Int)+1)=((k+1:Nat):Int):=by have:=kO.out;unfold wrap64;omega
   obtain ⟨V',hV'⟩:∃V',V'=bJ d 1 (k+1) 0 0:=⟨_,rfl⟩;rw [<- hV'] at hs;have fR:=ae hV';clear hV' HF;generalize bJ d 1 k 0 0=V at *;generalize bt d k=c at *;cases hi:ez V with
   | true =>
    rw [hi,if_pos rfl] at hs;rw [hi] at HJ;have hw1:wrap64 (V*10)=V*10:=by unfold wrap64;omega
    have hw2:IntKind.i32.wrap (c-48)=c-48:=by rw [IntKind.wrap_i32];omega
    have sj:wrap32 (c-48)=c-48:=by unfold wrap32;omega
    have hw3:wrap64 (1*(c-48))=1*(c-48):=by unfold wrap64;omega
    have hw4:wrap64 (V*10+1*(c-48))=V':=by rw [hs];unfold wrap64;omega
    have ja:=ae hw4;clear hd hb hs;go_wp2_with fail;refine HD.out.mono ?_;rintro e u ⟨rfl,rfl⟩;go_wp2_with fail;refine HJ.out.mono ?_;rintro e u ⟨rfl,rfl⟩;go_wp2;go_roundw
    case rel=>exact ⟨k+1,rfl,by rw [<- fR.out,<- ja.out];first|rfl|(congr 1;done)|(congr 1;unfold wrap64;omega),by first|rfl|(congr 1),dE⟩
    case measure=>rw [eD,eD];omega
   | false =>
    rw [hi,if_neg (by decide)] at hs;rw [hi] at HJ;have HS:=ae hs;clear hd hb hs;go_wp2_with fail;refine HD.out.mono ?_;rintro e u ⟨rfl,rfl⟩;go_wp2_with fail;refine HJ.out.mono ?_;rintro e u ⟨rfl,rfl⟩;go_wp2;go_roundw
    case rel=>exact ⟨k+1,rfl,by rw [<- fR.out,HS.out],by first|rfl|(congr 1),dE⟩
    case measure=>rw [eD,eD];omega
  ·obtain rfl:k=K:=by omega
   have fS:=ae (show bJ d 1 k 0 0=PV from HF.out);rw [fS.out];clear fS HF;by_cases hp:k<d.size
   ·have key:∃(wd:Nat) (c:Int),(∀ty,(Instr.next (.pointer (some ⟨w.heap.size+1,0,none⟩)) true ty).run Tryz.prog ((wA w).iter d k)=.ok (.tuple #[.bool true,.int .i64 k,.int .i32 c]) ((wA w).iter d (k+wd)))/\dg c=false:=by
     by_cases hb:bt d k<128
     ·exact ⟨1,bt d k,fun ty=>jo w d k hp hb ty,HN.out hp⟩
     ·exact ⟨_,_,fun ty=>qH w d k hp ty,pK (nU d k hp hb).1⟩
    obtain ⟨wd,c,hnx,fI⟩:=key;have HD:=ae (gK c ((wA w).iter d (k+wd)));rw [fI] at HD;clear fI HN HA;go_wp2_with fail;refine HD.out.mono ?_;rintro e u ⟨rfl,rfl⟩;obtain ⟨W2,aY,hth,z5,z6,z7,z8,hbl⟩:=((An.start w).on (ij (wA w) d (k+wd))).put (.int .i64 0) (.string ⟨#[]⟩) (.int .i64 0) (.int .i64 0);have HW2:=ae aY;have az:=ae hth;have ck:=ae hbl;clear aY hth hbl;go_wp2_with (refine wpList_store_mid rfl 47 (.tmp 2) (.tmp 53) rfl w.heap.size 0 #[.int .i64 0,.string ⟨#[]⟩,.int .i64 0,.int .i64 0] rfl rfl az.out fB (by simp [Value.oneCell']) ?_;rw [HW2.out]);refine bodyPost_ret (v:=.tuple #[.agg #[.int .i64 0,.string ⟨#[]⟩,.int .i64 0,.int .i64 0],.int .i64 0,.int .i64 110]) (by simp [results,Tryz.results114,go_sem,z5,z6,z7,z8]) rfl ⟨congrArg _ HO.out.symm,ck.out⟩
   ·have hnx:∀ty,(Instr.next (.pointer (some ⟨w.heap.size+1,0,none⟩)) true ty).run Tryz.prog ((wA w).iter d k)=_:=fun ty=>qI w d k hp ty;clear HN HA;obtain ⟨W2,aY,hth,z5,z6,z7,z8,hbl⟩:=((An.start w).on (ij (wA w) d k)).put (.int .i64 0) (.string ⟨#[]⟩) (.int .i64 0) (.int .i64 0);have HW2:=ae aY;have az:=ae hth;have ck:=ae hbl;clear aY hth hbl;go_wp2_with (refine wpList_store_mid rfl 47 (.tmp 2) (.tmp 53) rfl w.heap.size 0 #[.int .i64 0,.string ⟨#[]⟩,.int .i64 0,.int .i64 0] rfl rfl az.out fB (by simp [Value.oneCell']) ?_;rw [HW2.out]);refine bodyPost_ret (v:=.tuple #[.agg #[.int .i64 0,.string ⟨#[]⟩,.int .i64 0,.int .i64 0],.int .i64 0,.int .i64 110]) (by simp [results,Tryz.results114,go_sem,z5,z6,z7,z8]) rfl ⟨congrArg _ HO.out.symm,ck.out⟩
theorem aa1 (s:ByteArray) (h0:0<s.size) (h63:s.size<9223372036854775807) (hc:bt s 0=126) (h1:1<en (s.extract 1 s.size) dg 0) (h2:bt (s.extract 1 s.size) 0=48) (w:World):Calls Tryz.prog 114 #[.string s] w fun e w'=>e=.returned (ik (none))/\Below w.heap.size w w':=by
 have hx:=fun (w:World)=>jZ s h0 w (P:=Tryz.prog) 9 Tryz.underlying9;have q0:(bt s 0 == 126)=true:=beq_iff_eq.2 hc;have hsz:(s.extract 1 s.size).size=s.size-1:=qb s 1;have HA:=ae (fun j (h:j<en (s.extract 1 s.size) dg 0)=>p9 (s.extract 1 s.size) dg (Nat.zero_le j) h);have fK:=ae (kJ (s.extract 1 s.size) dg (Nat.zero_le _));have HN:=ae (uM (s.extract 1 s.size) dg (i:=0));obtain ⟨K,hK⟩:∃K,en (s.extract 1 s.size) dg 0=K:=⟨_,rfl⟩;obtain ⟨PV,fJ⟩:∃PV,bJ (s.extract 1 s.size) (-1) K 0 0=PV:=⟨_,rfl⟩;have HF:=ae fJ;rw [hK] at HA fK HN h1;have HO:Hid (ik (none)=.tuple #[.agg #[.int .i64 0,.string ⟨#[]⟩,.int .i64 0,.int .i64 0],.int .i64 0,.int .i64 110]):=ae rfl;generalize ik (none)=OUT at HO ⊢;have kO:Hid ((s.extract 1 s.size).size<9223372036854775807):=ae (aS _ _ hsz h63);have z1:((K:Int) == 0)=false:=beq_eq_false_iff_ne.2 (by omega);have z2:decide ((K:Int) > 1)=true:=decide_eq_true (by omega);have z3:1<K:=h1;have z4:(bt (s.extract 1 s.size) 0 == 48)=true:=beq_iff_eq.2 h2;have hy:=fun (w:World)=>jZ (s.extract 1 s.size) (by have:=fK.out;omega) w (P:=Tryz.prog) 9 Tryz.underlying9;clear hc hK fJ h1 hsz;go_enter Tryz.func114,Tryz.ntmps114;go_wp2;generalize s.extract 1 s.size=d at *;go_loopw [7,8] (fun n l w'=>∃k:Nat,w'=(wA w).iter d k/\n=.int .i64 (bJ d (-1) k 0 0)/\l=.int .i64 k/\k<=K) (fun _ _ w'=>d.size-w'.iterPos (w.heap.size+1))
 case atStart=>exact ⟨0,rfl,rfl,rfl,Nat.zero_le _⟩
 case round =>
  obtain ⟨k,rfl,rfl,rfl,hk⟩:=hrel;by_cases dE:k<K
  ·have hd:=jX (HA.out k dE);have hp:k<d.size:=by have:=fK.out;omega
   have hnx:∀ty,(Instr.next (.pointer (some ⟨w.heap.size+1,0,none⟩)) true ty).run Tryz.prog ((wA w).iter d k)=_:=fun ty=>jo w d k hp (by omega) ty;have HD:=ae (gK (bt d k) ((wA w).iter d (k+1)));rw [HA.out k dE] at HD;have hb:=mi d (-1) (by decide) k fun j hj=>HA.out j (by omega);have hs:=nK d (-1) k 0 0;rw [Nat.zero_add] at hs;have HJ:=ae (mo (bJ d (-1) k 0 0) ((wA w).iter d (k+1)) (by omega) (by omega));have hwl:wrap64 ((k:Int)+1)=((k+1:Nat):Int):=by have:=kO.out;unfold wrap64;omega
   obtain ⟨V',hV'⟩:∃V',V'=bJ d (-1) (k+1) 0 0:=⟨_,rfl⟩;rw [<- hV'] at hs;have fR:=ae hV';clear hV' HF;generalize bJ d (-1) k 0 0=V at *;generalize bt d k=c at *;cases hi:ez V with
   | true =>
    rw [hi,if_pos rfl] at hs;rw [hi] at HJ;have hw1:wrap64 (V*10)=V*10:=by unfold wrap64;omega
    have hw2:IntKind.i32.wrap (c-48)=c-48:=by rw [IntKind.wrap_i32];omega
    have sj:wrap32 (c-48)=c-48:=by unfold wrap32;omega
    have hw3:wrap64 ((-1)*(c-48))=(-1)*(c-48):=by unfold wrap64;omega
    have hw4:wrap64 (V*10+(-1)*(c-48))=V':=by rw [hs];unfold wrap64;omega
    have ja:=ae hw4;clear hd hb hs;go_wp2_with fail;refine HD.out.mono ?_;rintro e u ⟨rfl,rfl⟩;go_wp2_with fail;refine HJ.out.mono ?_;rintro e u ⟨rfl,rfl⟩;go_wp2;go_roundw
    case rel=>exact ⟨k+1,rfl,by rw [<- fR.out,<- ja.out];first|rfl|(congr 1;done)|(congr 1;unfold wrap64;omega),by first|rfl|(congr 1),dE⟩
    case measure=>rw [eD,eD];omega
   | false =>
    rw [hi,if_neg (by decide)] at hs;rw [hi] at HJ;have HS:=ae hs;clear hd hb hs;go_wp2_with fail;refine HD.out.mono ?_;rintro e u ⟨rfl,rfl⟩;go_wp2_with fail;refine HJ.out.mono ?_;rintro e u ⟨rfl,rfl⟩;go_wp2;go_roundw
    case rel=>exact ⟨k+1,rfl,by rw [<- fR.out,HS.out],by first|rfl|(congr 1),dE⟩
    case measure=>rw [eD,eD];omega
  ·obtain rfl:k=K:=by omega
   have fS:=ae (show bJ d (-1) k 0 0=PV from HF.out);rw [fS.out];clear fS HF;by_cases hp:k<d.size
   ·have key:∃(wd:Nat) (c:Int),(∀ty,(Instr.next (.pointer (some ⟨w.heap.size+1,0,none⟩)) true ty).run Tryz.prog ((wA w).iter d k)=.ok (.tuple #[.bool true,.int .i64 k,.int .i32 c]) ((wA w).iter d (k+wd)))/\dg c=false:=by
     by_cases hb:bt d k<128
     ·exact ⟨1,bt d k,fun ty=>jo w d k hp hb ty,HN.out hp⟩
     ·exact ⟨_,_,fun ty=>qH w d k hp ty,pK (nU d k hp hb).1⟩
    obtain ⟨wd,c,hnx,fI⟩:=key;have HD:=ae (gK c ((wA w).iter d (k+wd)));rw [fI] at HD;clear fI HN HA;go_wp2_with fail;refine HD.out.mono ?_;rintro e u ⟨rfl,rfl⟩;obtain ⟨W2,aY,hth,z5,z6,z7,z8,hbl⟩:=((An.start w).on (ij (wA w) d (k+wd))).put (.int .i64 0) (.string ⟨#[]⟩) (.int .i64 0) (.int .i64 0);have HW2:=ae aY;have az:=ae hth;have ck:=ae hbl;clear aY hth hbl;go_wp2_with (refine wpList_store_mid rfl 47 (.tmp 2) (.tmp 53) rfl w.heap.size 0 #[.int .i64 0,.string ⟨#[]⟩,.int .i64 0,.int .i64 0] rfl rfl az.out fB (by simp [Value.oneCell']) ?_;rw [HW2.out]);refine bodyPost_ret (v:=.tuple #[.agg #[.int .i64 0,.string ⟨#[]⟩,.int .i64 0,.int .i64 0],.int .i64 0,.int .i64 110]) (by simp [results,Tryz.results114,go_sem,z5,z6,z7,z8]) rfl ⟨congrArg _ HO.out.symm,ck.out⟩
   ·have hnx:∀ty,(Instr.next (.pointer (some ⟨w.heap.size+1,0,none⟩)) true ty).run Tryz.prog ((wA w).iter d k)=_:=fun ty=>qI w d k hp ty;clear HN HA;obtain ⟨W2,aY,hth,z5,z6,z7,z8,hbl⟩:=((An.start w).on (ij (wA w) d k)).put (.int .i64 0) (.string ⟨#[]⟩) (.int .i64 0) (.int .i64 0);have HW2:=ae aY;have az:=ae hth;have ck:=ae hbl;clear aY hth hbl;go_wp2_with (refine wpList_store_mid rfl 47 (.tmp 2) (.tmp 53) rfl w.heap.size 0 #[.int .i64 0,.string ⟨#[]⟩,.int .i64 0,.int .i64 0] rfl rfl az.out fB (by simp [Value.oneCell']) ?_;rw [HW2.out]);refine bodyPost_ret (v:=.tuple #[.agg #[.int .i64 0,.string ⟨#[]⟩,.int .i64 0,.int .i64 0],.int .i64 0,.int .i64 110]) (by simp [results,Tryz.results114,go_sem,z5,z6,z7,z8]) rfl ⟨congrArg _ HO.out.symm,ck.out⟩
theorem aa2 (s:ByteArray) (h0:0<s.size) (h63:s.size<9223372036854775807) (hc:bt s 0≠126) (h1:0<en s dg 0) (h2:¬ (1<en s dg 0/\bt s 0=48)) (h3:ez (bJ s 1 (en s dg 0) 0 0)=false) (w:World):Calls Tryz.prog 114 #[.string s] w fun e w'=>e=.returned (ik (none))/\Below w.heap.size w w':=by
 have hx:=fun (w:World)=>jZ s h0 w (P:=Tryz.prog) 9 Tryz.underlying9;have q0:(bt s 0 == 126)=false:=beq_eq_false_iff_ne.2 hc;have HA:=ae (fun j (h:j<en s dg 0)=>p9 s dg (Nat.zero_le j) h);have fK:=ae (kJ s dg (Nat.zero_le _));have HN:=ae (uM s dg (i:=0));obtain ⟨K,hK⟩:∃K,en s dg 0=K:=⟨_,rfl⟩;obtain ⟨PV,fJ⟩:∃PV,bJ s 1 K 0 0=PV:=⟨_,rfl⟩;have HF:=ae fJ;rw [hK,fJ] at h3;rw [hK] at HA fK HN h1 h2;have jV:=ae (mi s 1 (by decide) K fun j hj=>HA.out j hj);rw [fJ] at jV;have HI:=ae (fun w=>mo PV w (by have:=jV.out;omega) (by have:=jV.out;omega));rw [h3] at HI;have HO:Hid (ik (none)=.tuple #[.agg #[.int .i64 0,.string ⟨#[]⟩,.int .i64 0,.int .i64 0],.int .i64 0,.int .i64 110]):=ae rfl;generalize ik (none)=OUT at HO ⊢;have kO:Hid (s.size<9223372036854775807):=ae (h63);have z1:((K:Int) == 0)=false:=beq_eq_false_iff_ne.2 (by omega);have hy:=fun (w:World)=>jZ s (by have:=fK.out;omega) w (P:=Tryz.prog) 9 Tryz.underlying9;by_cases z2:1<K
 ·have z3:decide ((K:Int) > 1)=true:=decide_eq_true (Int.ofNat_lt.2 z2);have z4:(bt s 0 == 48)=false:=beq_eq_false_iff_ne.2 (fun h=>h2 ⟨z2,h⟩);clear h2;clear hc hK fJ h1;obtain ⟨d,hd⟩:∃d,d=s:=⟨_,rfl⟩;subst hd;go_enter Tryz.func114,Tryz.ntmps114;go_wp2;go_loopw [7,8] (fun n l w'=>∃k:Nat,w'=(wA w).iter d k/\n=.int .i64 (bJ d 1 k 0 0)/\l=.int .i64 k/\k<=K) (fun _ _ w'=>d.size-w'.iterPos (w.heap.size+1))
  case atStart=>exact ⟨0,rfl,rfl,rfl,Nat.zero_le _⟩
  case round =>
   obtain ⟨k,rfl,rfl,rfl,hk⟩:=hrel;by_cases dE:k<K
   ·have hd:=jX (HA.out k dE);have hp:k<d.size:=by have:=fK.out;omega
    have hnx:∀ty,(Instr.next (.pointer (some ⟨w.heap.size+1,0,none⟩)) true ty).run Tryz.prog ((wA w).iter d k)=_:=fun ty=>jo w d k hp (by omega) ty;have HD:=ae (gK (bt d k) ((wA w).iter d (k+1)));rw [HA.out k dE] at HD;have hb:=mi d 1 (by decide) k fun j hj=>HA.out j (by omega);have hs:=nK d 1 k 0 0;rw [Nat.zero_add] at hs;have HJ:=ae (mo (bJ d 1 k 0 0) ((wA w).iter d (k+1)) (by omega) (by omega));have hwl:wrap64 ((k:Int)+1)=((k+1:Nat):Int):=by have:=kO.out;unfold wrap64;omega
    obtain ⟨V',hV'⟩:∃V',V'=bJ d 1 (k+1) 0 0:=⟨_,rfl⟩;rw [<- hV'] at hs;have fR:=ae hV';clear hV' HF;generalize bJ d 1 k 0 0=V at *;generalize bt d k=c at *;cases hi:ez V with
    | true =>
     rw [hi,if_pos rfl] at hs;rw [hi] at HJ;have hw1:wrap64 (V*10)=V*10:=by unfold wrap64;omega
     have hw2:IntKind.i32.wrap (c-48)=c-48:=by rw [IntKind.wrap_i32];omega
     have sj:wrap32 (c-48)=c-48:=by unfold wrap32;omega
     have hw3:wrap64 (1*(c-48))=1*(c-48):=by unfold wrap64;omega
     have hw4:wrap64 (V*10+1*(c-48))=V':=by rw [hs];unfold wrap64;omega
     have ja:=ae hw4;clear hd hb hs;go_wp2_with fail;refine HD.out.mono ?_;rintro e u ⟨rfl,rfl⟩;go_wp2_with fail;refine HJ.out.mono ?_;rintro e u ⟨rfl,rfl⟩;go_wp2;go_roundw
     case rel=>exact ⟨k+1,rfl,by rw [<- fR.out,<- ja.out];first|rfl|(congr 1;done)|(congr 1;unfold wrap64;omega),by first|rfl|(congr 1),dE⟩
     case measure=>rw [eD,eD];omega
    | false =>
     rw [hi,if_neg (by decide)] at hs;rw [hi] at HJ;have HS:=ae hs;clear hd hb hs;go_wp2_with fail;refine HD.out.mono ?_;rintro e u ⟨rfl,rfl⟩;go_wp2_with fail;refine HJ.out.mono ?_;rintro e u ⟨rfl,rfl⟩;go_wp2;go_roundw
     case rel=>exact ⟨k+1,rfl,by rw [<- fR.out,HS.out],by first|rfl|(congr 1),dE⟩
     case measure=>rw [eD,eD];omega
   ·obtain rfl:k=K:=by omega
    have fS:=ae (show bJ d 1 k 0 0=PV from HF.out);rw [fS.out];clear fS HF;by_cases hp:k<d.size
    ·have key:∃(wd:Nat) (c:Int),(∀ty,(Instr.next (.pointer (some ⟨w.heap.size+1,0,none⟩)) true ty).run Tryz.prog ((wA w).iter d k)=.ok (.tuple #[.bool true,.int .i64 k,.int .i32 c]) ((wA w).iter d (k+wd)))/\dg c=false:=by
      by_cases hb:bt d k<128
      ·exact ⟨1,bt d k,fun ty=>jo w d k hp hb ty,HN.out hp⟩
      ·exact ⟨_,_,fun ty=>qH w d k hp ty,pK (nU d k hp hb).1⟩
     obtain ⟨wd,c,hnx,fI⟩:=key;have HD:=ae (gK c ((wA w).iter d (k+wd)));rw [fI] at HD;clear fI HN HA;go_wp2_with fail;refine HD.out.mono ?_;rintro e u ⟨rfl,rfl⟩;obtain ⟨W2,aY,hth,z5,z6,z7,z8,hbl⟩:=((An.start w).on (ij (wA w) d (k+wd))).put (.int .i64 0) (.string ⟨#[]⟩) (.int .i64 0) (.int .i64 0);have HW2:=ae aY;have az:=ae hth;have ck:=ae hbl;clear aY hth hbl;go_wp2_with fail;refine (HI.out _).mono ?_;rintro e u ⟨rfl,rfl⟩;go_wp2_with (refine wpList_store_mid rfl 47 (.tmp 2) (.tmp 53) rfl w.heap.size 0 #[.int .i64 0,.string ⟨#[]⟩,.int .i64 0,.int .i64 0] rfl rfl az.out fB (by simp [Value.oneCell']) ?_;rw [HW2.out]);refine bodyPost_ret (v:=.tuple #[.agg #[.int .i64 0,.string ⟨#[]⟩,.int .i64 0,.int .i64 0],.int .i64 0,.int .i64 110]) (by simp [results,Tryz.results114,go_sem,z5,z6,z7,z8]) rfl ⟨congrArg _ HO.out.symm,ck.out⟩
    ·have hnx:∀ty,(Instr.next (.pointer (some ⟨w.heap.size+1,0,none⟩)) true ty).run Tryz.prog ((wA w).iter d k)=_:=fun ty=>qI w d k hp ty;clear HN HA;obtain ⟨W2,aY,hth,z5,z6,z7,z8,hbl⟩:=((An.start w).on (ij (wA w) d k)).put (.int .i64 0) (.string ⟨#[]⟩) (.int .i64 0) (.int .i64 0);have HW2:=ae aY;have az:=ae hth;have ck:=ae hbl;clear aY hth hbl;go_wp2_with fail;refine (HI.out _).mono ?_;rintro e u ⟨rfl,rfl⟩;go_wp2_with (refine wpList_store_mid rfl 47 (.tmp 2) (.tmp 53) rfl w.heap.size 0 #[.int .i64 0,.string ⟨#[]⟩,.int .i64 0,.int .i64 0] rfl rfl az.out fB (by simp [Value.oneCell']) ?_;rw [HW2.out]);refine bodyPost_ret (v:=.tuple #[.agg #[.int .i64 0,.string ⟨#[]⟩,.int .i64 0,.int .i64 0],.int .i64 0,.int .i64 110]) (by simp [results,Tryz.results114,go_sem,z5,z6,z7,z8]) rfl ⟨congrArg _ HO.out.symm,ck.out⟩
 ·have z3:decide ((K:Int) > 1)=false:=decide_eq_false (fun h=>z2 (Int.ofNat_lt.1 h));clear h2;clear hc hK fJ h1;obtain ⟨d,hd⟩:∃d,d=s:=⟨_,rfl⟩;subst hd;go_enter Tryz.func114,Tryz.ntmps114;go_wp2;go_loopw [7,8] (fun n l w'=>∃k:Nat,w'=(wA w).iter d k/\n=.int .i64 (bJ d 1 k 0 0)/\l=.int .i64 k/\k<=K) (fun _ _ w'=>d.size-w'.iterPos (w.heap.size+1))
  case atStart=>exact ⟨0,rfl,rfl,rfl,Nat.zero_le _⟩
  case round =>
   obtain ⟨k,rfl,rfl,rfl,hk⟩:=hrel;by_cases dE:k<K
   ·have hd:=jX (HA.out k dE);have hp:k<d.size:=by have:=fK.out;omega
    have hnx:∀ty,(Instr.next (.pointer (some ⟨w.heap.size+1,0,none⟩)) true ty).run Tryz.prog ((wA w).iter d k)=_:=fun ty=>jo w d k hp (by omega) ty;have HD:=ae (gK (bt d k) ((wA w).iter d (k+1)));rw [HA.out k dE] at HD;have hb:=mi d 1 (by decide) k fun j hj=>HA.out j (by omega);have hs:=nK d 1 k 0 0;rw [Nat.zero_add] at hs;have HJ:=ae (mo (bJ d 1 k 0 0) ((wA w).iter d (k+1)) (by omega) (by omega));have hwl:wrap64 ((k:Int)+1)=((k+1:Nat):Int):=by have:=kO.out;unfold wrap64;omega
    obtain ⟨V',hV'⟩:∃V',V'=bJ d 1 (k+1) 0 0:=⟨_,rfl⟩;rw [<- hV'] at hs;have fR:=ae hV';clear hV' HF;generalize bJ d 1 k 0 0=V at *;generalize bt d k=c at *;cases hi:ez V with
    | true =>
     rw [hi,if_pos rfl] at hs;rw [hi] at HJ;have hw1:wrap64 (V*10)=V*10:=by unfold wrap64;omega
     have hw2:IntKind.i32.wrap (c-48)=c-48:=by rw [IntKind.wrap_i32];omega
     have sj:wrap32 (c-48)=c-48:=by unfold wrap32;omega
     have hw3:wrap64 (1*(c-48))=1*(c-48):=by unfold wrap64;omega
     have hw4:wrap64 (V*10+1*(c-48))=V':=by rw [hs];unfold wrap64;omega
     have ja:=ae hw4;clear hd hb hs;go_wp2_with fail;refine HD.out.mono ?_;rintro e u ⟨rfl,rfl⟩;go_wp2_with fail;refine HJ.out.mono ?_;rintro e u ⟨rfl,rfl⟩;go_wp2;go_roundw
     case rel=>exact ⟨k+1,rfl,by rw [<- fR.out,<- ja.out];first|rfl|(congr 1;done)|(congr 1;unfold wrap64;omega),by first|rfl|(congr 1),dE⟩
     case measure=>rw [eD,eD];omega
    | false =>
     rw [hi,if_neg (by decide)] at hs;rw [hi] at HJ;have HS:=ae hs;clear hd hb hs;go_wp2_with fail;refine HD.out.mono ?_;rintro e u ⟨rfl,rfl⟩;go_wp2_with fail;refine HJ.out.mono ?_;rintro e u ⟨rfl,rfl⟩;go_wp2;go_roundw
     case rel=>exact ⟨k+1,rfl,by rw [<- fR.out,HS.out],by first|rfl|(congr 1),dE⟩
     case measure=>rw [eD,eD];omega
   ·obtain rfl:k=K:=by omega
    have fS:=ae (show bJ d 1 k 0 0=PV from HF.out);rw [fS.out];clear fS HF;by_cases hp:k<d.size
    ·have key:∃(wd:Nat) (c:Int),(∀ty,(Instr.next (.pointer (some ⟨w.heap.size+1,0,none⟩)) true ty).run Tryz.prog ((wA w).iter d k)=.ok (.tuple #[.bool true,.int .i64 k,.int .i32 c]) ((wA w).iter d (k+wd)))/\dg c=false:=by
      by_cases hb:bt d k<128
      ·exact ⟨1,bt d k,fun ty=>jo w d k hp hb ty,HN.out hp⟩
      ·exact ⟨_,_,fun ty=>qH w d k hp ty,pK (nU d k hp hb).1⟩
     obtain ⟨wd,c,hnx,fI⟩:=key;have HD:=ae (gK c ((wA w).iter d (k+wd)));rw [fI] at HD;clear fI HN HA;go_wp2_with fail;refine HD.out.mono ?_;rintro e u ⟨rfl,rfl⟩;obtain ⟨W2,aY,hth,z5,z6,z7,z8,hbl⟩:=((An.start w).on (ij (wA w) d (k+wd))).put (.int .i64 0) (.string ⟨#[]⟩) (.int .i64 0) (.int .i64 0);have HW2:=ae aY;have az:=ae hth;have ck:=ae hbl;clear aY hth hbl;go_wp2_with fail;refine (HI.out _).mono ?_;rintro e u ⟨rfl,rfl⟩;go_wp2_with (refine wpList_store_mid rfl 47 (.tmp 2) (.tmp 53) rfl w.heap.size 0 #[.int .i64 0,.string ⟨#[]⟩,.int .i64 0,.int .i64 0] rfl rfl az.out fB (by simp [Value.oneCell']) ?_;rw [HW2.out]);refine bodyPost_ret (v:=.tuple #[.agg #[.int .i64 0,.string ⟨#[]⟩,.int .i64 0,.int .i64 0],.int .i64 0,.int .i64 110]) (by simp [results,Tryz.results114,go_sem,z5,z6,z7,z8]) rfl ⟨congrArg _ HO.out.symm,ck.out⟩
    ·have hnx:∀ty,(Instr.next (.pointer (some ⟨w.heap.size+1,0,none⟩)) true ty).run Tryz.prog ((wA w).iter d k)=_:=fun ty=>qI w d k hp ty;clear HN HA;obtain ⟨W2,aY,hth,z5,z6,z7,z8,hbl⟩:=((An.start w).on (ij (wA w) d k)).put (.int .i64 0) (.string ⟨#[]⟩) (.int .i64 0) (.int .i64 0);have HW2:=ae aY;have az:=ae hth;have ck:=ae hbl;clear aY hth hbl;go_wp2_with fail;refine (HI.out _).mono ?_;rintro e u ⟨rfl,rfl⟩;go_wp2_with (refine wpList_store_mid rfl 47 (.tmp 2) (.tmp 53) rfl w.heap.size 0 #[.int .i64 0,.string ⟨#[]⟩,.int .i64 0,.int .i64 0] rfl rfl az.out fB (by simp [Value.oneCell']) ?_;rw [HW2.out]);refine bodyPost_ret (v:=.tuple #[.agg #[.int .i64 0,.string ⟨#[]⟩,.int .i64 0,.int .i64 0],.int .i64 0,.int .i64 110]) (by simp [results,Tryz.results114,go_sem,z5,z6,z7,z8]) rfl ⟨congrArg _ HO.out.symm,ck.out⟩
theorem aa3 (s:ByteArray) (h0:0<s.size) (h63:s.size<9223372036854775807) (hc:bt s 0=126) (h1:0<en (s.extract 1 s.size) dg 0) (h2:¬ (1<en (s.extract 1 s.size) dg 0/\bt (s.extract 1 s.size) 0=48)) (h3:ez (bJ (s.extract 1 s.size) (-1) (en (s.extract 1 s.size) dg 0) 0 0)=false) (w:World):Calls Tryz.prog 114 #[.string s] w fun e w'=>e=.returned (ik (none))/\Below w.heap.size w w':=by
 have hx:=fun (w:World)=>jZ s h0 w (P:=Tryz.prog) 9 Tryz.underlying9;have q0:(bt s 0 == 126)=true:=beq_iff_eq.2 hc;have hsz:(s.extract 1 s.size).size=s.size-1:=qb s 1;have HA:=ae (fun j (h:j<en (s.extract 1 s.size) dg 0)=>p9 (s.extract 1 s.size) dg (Nat.zero_le j) h);have fK:=ae (kJ (s.extract 1 s.size) dg (Nat.zero_le _));have HN:=ae (uM (s.extract 1 s.size) dg (i:=0));obtain ⟨K,hK⟩:∃K,en (s.extract 1 s.size) dg 0=K:=⟨_,rfl⟩;obtain ⟨PV,fJ⟩:∃PV,bJ (s.extract 1 s.size) (-1) K 0 0=PV:=⟨_,rfl⟩;have HF:=ae fJ;rw [hK,fJ] at h3;rw [hK] at HA fK HN h1 h2;have jV:=ae (mi (s.extract 1 s.size) (-1) (by decide) K fun j hj=>HA.out j hj);rw [fJ] at jV;have HI:=ae (fun w=>mo PV w (by have:=jV.out;omega) (by have:=jV.out;omega));rw [h3] at HI;have HO:Hid (ik (none)=.tuple #[.agg #[.int .i64 0,.string ⟨#[]⟩,.int .i64 0,.int .i64 0],.int .i64 0,.int .i64 110]):=ae rfl;generalize ik (none)=OUT at HO ⊢;have kO:Hid ((s.extract 1 s.size).size<9223372036854775807):=ae (aS _ _ hsz h63);have z1:((K:Int) == 0)=false:=beq_eq_false_iff_ne.2 (by omega);have hy:=fun (w:World)=>jZ (s.extract 1 s.size) (by have:=fK.out;omega) w (P:=Tryz.prog) 9 Tryz.underlying9;by_cases z2:1<K
 ·have z3:decide ((K:Int) > 1)=true:=decide_eq_true (Int.ofNat_lt.2 z2);have z4:(bt (s.extract 1 s.size) 0 == 48)=false:=beq_eq_false_iff_ne.2 (fun h=>h2 ⟨z2,h⟩);clear h2;clear hc hK fJ h1 hsz;go_enter Tryz.func114,Tryz.ntmps114;go_wp2;generalize s.extract 1 s.size=d at *;go_loopw [7,8] (fun n l w'=>∃k:Nat,w'=(wA w).iter d k/\n=.int .i64 (bJ d (-1) k 0 0)/\l=.int .i64 k/\k<=K) (fun _ _ w'=>d.size-w'.iterPos (w.heap.size+1))
  case atStart=>exact ⟨0,rfl,rfl,rfl,Nat.zero_le _⟩
  case round =>
   obtain ⟨k,rfl,rfl,rfl,hk⟩:=hrel;by_cases dE:k<K
   ·have hd:=jX (HA.out k dE);have hp:k<d.size:=by have:=fK.out;omega
    have hnx:∀ty,(Instr.next (.pointer (some ⟨w.heap.size+1,0,none⟩)) true ty).run Tryz.prog ((wA w).iter d k)=_:=fun ty=>jo w d k hp (by omega) ty;have HD:=ae (gK (bt d k) ((wA w).iter d (k+1)));rw [HA.out k dE] at HD;have hb:=mi d (-1) (by decide) k fun j hj=>HA.out j (by omega);have hs:=nK d (-1) k 0 0;rw [Nat.zero_add] at hs;have HJ:=ae (mo (bJ d (-1) k 0 0) ((wA w).iter d (k+1)) (by omega) (by omega));have hwl:wrap64 ((k:Int)+1)=((k+1:Nat):Int):=by have:=kO.out;unfold wrap64;omega
    obtain ⟨V',hV'⟩:∃V',V'=bJ d (-1) (k+1) 0 0:=⟨_,rfl⟩;rw [<- hV'] at hs;have fR:=ae hV';clear hV' HF;generalize bJ d (-1) k 0 0=V at *;generalize bt d k=c at *;cases hi:ez V with
    | true =>
     rw [hi,if_pos rfl] at hs;rw [hi] at HJ;have hw1:wrap64 (V*10)=V*10:=by unfold wrap64;omega
     have hw2:IntKind.i32.wrap (c-48)=c-48:=by rw [IntKind.wrap_i32];omega
     have sj:wrap32 (c-48)=c-48:=by unfold wrap32;omega
     have hw3:wrap64 ((-1)*(c-48))=(-1)*(c-48):=by unfold wrap64;omega
     have hw4:wrap64 (V*10+(-1)*(c-48))=V':=by rw [hs];unfold wrap64;omega
     have ja:=ae hw4;clear hd hb hs;go_wp2_with fail;refine HD.out.mono ?_;rintro e u ⟨rfl,rfl⟩;go_wp2_with fail;refine HJ.out.mono ?_;rintro e u ⟨rfl,rfl⟩;go_wp2;go_roundw
     case rel=>exact ⟨k+1,rfl,by rw [<- fR.out,<- ja.out];first|rfl|(congr 1;done)|(congr 1;unfold wrap64;omega),by first|rfl|(congr 1),dE⟩
     case measure=>rw [eD,eD];omega
    | false =>
     rw [hi,if_neg (by decide)] at hs;rw [hi] at HJ;have HS:=ae hs;clear hd hb hs;go_wp2_with fail;refine HD.out.mono ?_;rintro e u ⟨rfl,rfl⟩;go_wp2_with fail;refine HJ.out.mono ?_;rintro e u ⟨rfl,rfl⟩;go_wp2;go_roundw
     case rel=>exact ⟨k+1,rfl,by rw [<- fR.out,HS.out],by first|rfl|(congr 1),dE⟩
     case measure=>rw [eD,eD];omega
   ·obtain rfl:k=K:=by omega
    have fS:=ae (show bJ d (-1) k 0 0=PV from HF.out);rw [fS.out];clear fS HF;by_cases hp:k<d.size
    ·have key:∃(wd:Nat) (c:Int),(∀ty,(Instr.next (.pointer (some ⟨w.heap.size+1,0,none⟩)) true ty).run Tryz.prog ((wA w).iter d k)=.ok (.tuple #[.bool true,.int .i64 k,.int .i32 c]) ((wA w).iter d (k+wd)))/\dg c=false:=by
      by_cases hb:bt d k<128
      ·exact ⟨1,bt d k,fun ty=>jo w d k hp hb ty,HN.out hp⟩
      ·exact ⟨_,_,fun ty=>qH w d k hp ty,pK (nU d k hp hb).1⟩
     obtain ⟨wd,c,hnx,fI⟩:=key;have HD:=ae (gK c ((wA w).iter d (k+wd)));rw [fI] at HD;clear fI HN HA;go_wp2_with fail;refine HD.out.mono ?_;rintro e u ⟨rfl,rfl⟩;obtain ⟨W2,aY,hth,z5,z6,z7,z8,hbl⟩:=((An.start w).on (ij (wA w) d (k+wd))).put (.int .i64 0) (.string ⟨#[]⟩) (.int .i64 0) (.int .i64 0);have HW2:=ae aY;have az:=ae hth;have ck:=ae hbl;clear aY hth hbl;go_wp2_with fail;refine (HI.out _).mono ?_;rintro e u ⟨rfl,rfl⟩;go_wp2_with (refine wpList_store_mid rfl 47 (.tmp 2) (.tmp 53) rfl w.heap.size 0 #[.int .i64 0,.string ⟨#[]⟩,.int .i64 0,.int .i64 0] rfl rfl az.out fB (by simp [Value.oneCell']) ?_;rw [HW2.out]);refine bodyPost_ret (v:=.tuple #[.agg #[.int .i64 0,.string ⟨#[]⟩,.int .i64 0,.int .i64 0],.int .i64 0,.int .i64 110]) (by simp [results,Tryz.results114,go_sem,z5,z6,z7,z8]) rfl ⟨congrArg _ HO.out.symm,ck.out⟩
    ·have hnx:∀ty,(Instr.next (.pointer (some ⟨w.heap.size+1,0,none⟩)) true ty).run Tryz.prog ((wA w).iter d k)=_:=fun ty=>qI w d k hp ty;clear HN HA;obtain ⟨W2,aY,hth,z5,z6,z7,z8,hbl⟩:=((An.start w).on (ij (wA w) d k)).put (.int .i64 0) (.string ⟨#[]⟩) (.int .i64 0) (.int .i64 0);have HW2:=ae aY;have az:=ae hth;have ck:=ae hbl;clear aY hth hbl;go_wp2_with fail;refine (HI.out _).mono ?_;rintro e u ⟨rfl,rfl⟩;go_wp2_with (refine wpList_store_mid rfl 47 (.tmp 2) (.tmp 53) rfl w.heap.size 0 #[.int .i64 0,.string ⟨#[]⟩,.int .i64 0,.int .i64 0] rfl rfl az.out fB (by simp [Value.oneCell']) ?_;rw [HW2.out]);refine bodyPost_ret (v:=.tuple #[.agg #[.int .i64 0,.string ⟨#[]⟩,.int .i64 0,.int .i64 0],.int .i64 0,.int .i64 110]) (by simp [results,Tryz.results114,go_sem,z5,z6,z7,z8]) rfl ⟨congrArg _ HO.out.symm,ck.out⟩
 ·have z3:decide ((K:Int) > 1)=false:=decide_eq_false (fun h=>z2 (Int.ofNat_lt.1 h));clear h2;clear hc hK fJ h1 hsz;go_enter Tryz.func114,Tryz.ntmps114;go_wp2;generalize s.extract 1 s.size=d at *;go_loopw [7,8] (fun n l w'=>∃k:Nat,w'=(wA w).iter d k/\n=.int .i64 (bJ d (-1) k 0 0)/\l=.int .i64 k/\k<=K) (fun _ _ w'=>d.size-w'.iterPos (w.heap.size+1))
  case atStart=>exact ⟨0,rfl,rfl,rfl,Nat.zero_le _⟩
  case round =>
   obtain ⟨k,rfl,rfl,rfl,hk⟩:=hrel;by_cases dE:k<K
   ·have hd:=jX (HA.out k dE);have hp:k<d.size:=by have:=fK.out;omega
    have hnx:∀ty,(Instr.next (.pointer (some ⟨w.heap.size+1,0,none⟩)) true ty).run Tryz.prog ((wA w).iter d k)=_:=fun ty=>jo w d k hp (by omega) ty;have HD:=ae (gK (bt d k) ((wA w).iter d (k+1)));rw [HA.out k dE] at HD;have hb:=mi d (-1) (by decide) k fun j hj=>HA.out j (by omega);have hs:=nK d (-1) k 0 0;rw [Nat.zero_add] at hs;have HJ:=ae (mo (bJ d (-1) k 0 0) ((wA w).iter d (k+1)) (by omega) (by omega));have hwl:wrap64 ((k:Int)+1)=((k+1:Nat):Int):=by have:=kO.out;unfold wrap64;omega
    obtain ⟨V',hV'⟩:∃V',V'=bJ d (-1) (k+1) 0 0:=⟨_,rfl⟩;rw [<- hV'] at hs;have fR:=ae hV';clear hV' HF;generalize bJ d (-1) k 0 0=V at *;generalize bt d k=c at *;cases hi:ez V with
    | true =>
     rw [hi,if_pos rfl] at hs;rw [hi] at HJ;have hw1:wrap64 (V*10)=V*10:=by unfold wrap64;omega
     have hw2:IntKind.i32.wrap (c-48)=c-48:=by rw [IntKind.wrap_i32];omega
     have sj:wrap32 (c-48)=c-48:=by unfold wrap32;omega
     have hw3:wrap64 ((-1)*(c-48))=(-1)*(c-48):=by unfold wrap64;omega
     have hw4:wrap64 (V*10+(-1)*(c-48))=V':=by rw [hs];unfold wrap64;omega
     have ja:=ae hw4;clear hd hb hs;go_wp2_with fail;refine HD.out.mono ?_;rintro e u ⟨rfl,rfl⟩;go_wp2_with fail;refine HJ.out.mono ?_;rintro e u ⟨rfl,rfl⟩;go_wp2;go_roundw
     case rel=>exact ⟨k+1,rfl,by rw [<- fR.out,<- ja.out];first|rfl|(congr 1;done)|(congr 1;unfold wrap64;omega),by first|rfl|(congr 1),dE⟩
     case measure=>rw [eD,eD];omega
    | false =>
     rw [hi,if_neg (by decide)] at hs;rw [hi] at HJ;have HS:=ae hs;clear hd hb hs;go_wp2_with fail;refine HD.out.mono ?_;rintro e u ⟨rfl,rfl⟩;go_wp2_with fail;refine HJ.out.mono ?_;rintro e u ⟨rfl,rfl⟩;go_wp2;go_roundw
     case rel=>exact ⟨k+1,rfl,by rw [<- fR.out,HS.out],by first|rfl|(congr 1),dE⟩
     case measure=>rw [eD,eD];omega
   ·obtain rfl:k=K:=by omega
    have fS:=ae (show bJ d (-1) k 0 0=PV from HF.out);rw [fS.out];clear fS HF;by_cases hp:k<d.size
    ·have key:∃(wd:Nat) (c:Int),(∀ty,(Instr.next (.pointer (some ⟨w.heap.size+1,0,none⟩)) true ty).run Tryz.prog ((wA w).iter d k)=.ok (.tuple #[.bool true,.int .i64 k,.int .i32 c]) ((wA w).iter d (k+wd)))/\dg c=false:=by
      by_cases hb:bt d k<128
      ·exact ⟨1,bt d k,fun ty=>jo w d k hp hb ty,HN.out hp⟩
      ·exact ⟨_,_,fun ty=>qH w d k hp ty,pK (nU d k hp hb).1⟩
     obtain ⟨wd,c,hnx,fI⟩:=key;have HD:=ae (gK c ((wA w).iter d (k+wd)));rw [fI] at HD;clear fI HN HA;go_wp2_with fail;refine HD.out.mono ?_;rintro e u ⟨rfl,rfl⟩;obtain ⟨W2,aY,hth,z5,z6,z7,z8,hbl⟩:=((An.start w).on (ij (wA w) d (k+wd))).put (.int .i64 0) (.string ⟨#[]⟩) (.int .i64 0) (.int .i64 0);have HW2:=ae aY;have az:=ae hth;have ck:=ae hbl;clear aY hth hbl;go_wp2_with fail;refine (HI.out _).mono ?_;rintro e u ⟨rfl,rfl⟩;go_wp2_with (refine wpList_store_mid rfl 47 (.tmp 2) (.tmp 53) rfl w.heap.size 0 #[.int .i64 0,.string ⟨#[]⟩,.int .i64 0,.int .i64 0] rfl rfl az.out fB (by simp [Value.oneCell']) ?_;rw [HW2.out]);refine bodyPost_ret (v:=.tuple #[.agg #[.int .i64 0,.string ⟨#[]⟩,.int .i64 0,.int .i64 0],.int .i64 0,.int .i64 110]) (by simp [results,Tryz.results114,go_sem,z5,z6,z7,z8]) rfl ⟨congrArg _ HO.out.symm,ck.out⟩
    ·have hnx:∀ty,(Instr.next (.pointer (some ⟨w.heap.size+1,0,none⟩)) true ty).run Tryz.prog ((wA w).iter d k)=_:=fun ty=>qI w d k hp ty;clear HN HA;obtain ⟨W2,aY,hth,z5,z6,z7,z8,hbl⟩:=((An.start w).on (ij (wA w) d k)).put (.int .i64 0) (.string ⟨#[]⟩) (.int .i64 0) (.int .i64 0);have HW2:=ae aY;have az:=ae hth;have ck:=ae hbl;clear aY hth hbl;go_wp2_with fail;refine (HI.out _).mono ?_;rintro e u ⟨rfl,rfl⟩;go_wp2_with (refine wpList_store_mid rfl 47 (.tmp 2) (.tmp 53) rfl w.heap.size 0 #[.int .i64 0,.string ⟨#[]⟩,.int .i64 0,.int .i64 0] rfl rfl az.out fB (by simp [Value.oneCell']) ?_;rw [HW2.out]);refine bodyPost_ret (v:=.tuple #[.agg #[.int .i64 0,.string ⟨#[]⟩,.int .i64 0,.int .i64 0],.int .i64 0,.int .i64 110]) (by simp [results,Tryz.results114,go_sem,z5,z6,z7,z8]) rfl ⟨congrArg _ HO.out.symm,ck.out⟩
theorem aa4 (s:ByteArray) (h0:0<s.size) (h63:s.size<9223372036854775807) (hc:bt s 0≠126) (h1:0<en s dg 0) (h2:¬ (1<en s dg 0/\bt s 0=48)) (h3:ez (bJ s 1 (en s dg 0) 0 0)=true) (w:World):Calls Tryz.prog 114 #[.string s] w fun e w'=>e=.returned (ik (some (bJ s 1 (en s dg 0) 0 0,en s dg 0)))/\Below w.heap.size w w':=by
 have hx:=fun (w:World)=>jZ s h0 w (P:=Tryz.prog) 9 Tryz.underlying9;have q0:(bt s 0 == 126)=false:=beq_eq_false_iff_ne.2 hc;have HA:=ae (fun j (h:j<en s dg 0)=>p9 s dg (Nat.zero_le j) h);have fK:=ae (kJ s dg (Nat.zero_le _));have HN:=ae (uM s dg (i:=0));obtain ⟨K,hK⟩:∃K,en s dg 0=K:=⟨_,rfl⟩;obtain ⟨PV,fJ⟩:∃PV,bJ s 1 K 0 0=PV:=⟨_,rfl⟩;have HF:=ae fJ;rw [hK,fJ] at h3;rw [hK,fJ];rw [hK] at HA fK HN h1 h2;have jV:=ae (mi s 1 (by decide) K fun j hj=>HA.out j hj);rw [fJ] at jV;have HI:=ae (fun w=>mo PV w (by have:=jV.out;omega) (by have:=jV.out;omega));rw [h3] at HI;have HO:Hid (ik (some (PV,K))=.tuple #[.agg #[.int .i64 4,.string ⟨#[]⟩,.int .i64 PV,.int .i64 0],.int .i64 (K:Nat),.int .i64 0]):=ae rfl;generalize ik (some (PV,K))=OUT at HO ⊢;have kO:Hid (s.size<9223372036854775807):=ae (h63);have z1:((K:Int) == 0)=false:=beq_eq_false_iff_ne.2 (by omega);have hy:=fun (w:World)=>jZ s (by have:=fK.out;omega) w (P:=Tryz.prog) 9 Tryz.underlying9;have hwz:wrap64 ((s.size:Int)-(s.size:Int))=0:=by unfold wrap64;omega
 have hwe:wrap64 (0+(K:Int))=(K:Int):=by have:=fK.out;unfold wrap64;omega
 have hwf:wrap64 (K:Int)=(K:Int):=by have:=fK.out;unfold wrap64;omega
 by_cases z2:1<K
 ·have z3:decide ((K:Int) > 1)=true:=decide_eq_true (Int.ofNat_lt.2 z2);have z4:(bt s 0 == 48)=false:=beq_eq_false_iff_ne.2 (fun h=>h2 ⟨z2,h⟩);clear h2;clear hc hK fJ h1;obtain ⟨d,hd⟩:∃d,d=s:=⟨_,rfl⟩;subst hd;go_enter Tryz.func114,Tryz.ntmps114;go_wp2;go_loopw [7,8] (fun n l w'=>∃k:Nat,w'=(wA w).iter d k/\n=.int .i64 (bJ d 1 k 0 0)/\l=.int .i64 k/\k<=K) (fun _ _ w'=>d.size-w'.iterPos (w.heap.size+1))
  case atStart=>exact ⟨0,rfl,rfl,rfl,Nat.zero_le _⟩
  case round =>
   obtain ⟨k,rfl,rfl,rfl,hk⟩:=hrel;by_cases dE:k<K
   ·have hd:=jX (HA.out k dE);have hp:k<d.size:=by have:=fK.out;omega
    have hnx:∀ty,(Instr.next (.pointer (some ⟨w.heap.size+1,0,none⟩)) true ty).run Tryz.prog ((wA w).iter d k)=_:=fun ty=>jo w d k hp (by omega) ty;have HD:=ae (gK (bt d k) ((wA w).iter d (k+1)));rw [HA.out k dE] at HD;have hb:=mi d 1 (by decide) k fun j hj=>HA.out j (by omega);have hs:=nK d 1 k 0 0;rw [Nat.zero_add] at hs;have HJ:=ae (mo (bJ d 1 k 0 0) ((wA w).iter d (k+1)) (by omega) (by omega));have hwl:wrap64 ((k:Int)+1)=((k+1:Nat):Int):=by have:=kO.out;unfold wrap64;omega
    obtain ⟨V',hV'⟩:∃V',V'=bJ d 1 (k+1) 0 0:=⟨_,rfl⟩;rw [<- hV'] at hs;have fR:=ae hV';clear hV' HF;generalize bJ d 1 k 0 0=V at *;generalize bt d k=c at *;cases hi:ez V with
    | true =>
     rw [hi,if_pos rfl] at hs;rw [hi] at HJ;have hw1:wrap64 (V*10)=V*10:=by unfold wrap64;omega
     have hw2:IntKind.i32.wrap (c-48)=c-48:=by rw [IntKind.wrap_i32];omega
     have sj:wrap32 (c-48)=c-48:=by unfold wrap32;omega
     have hw3:wrap64 (1*(c-48))=1*(c-48):=by unfold wrap64;omega
     have hw4:wrap64 (V*10+1*(c-48))=V':=by rw [hs];unfold wrap64;omega
     have ja:=ae hw4;clear hd hb hs;go_wp2_with fail;refine HD.out.mono ?_;rintro e u ⟨rfl,rfl⟩;go_wp2_with fail;refine HJ.out.mono ?_;rintro e u ⟨rfl,rfl⟩;go_wp2;go_roundw
     case rel=>exact ⟨k+1,rfl,by rw [<- fR.out,<- ja.out];first|rfl|(congr 1;done)|(congr 1;unfold wrap64;omega),by first|rfl|(congr 1),dE⟩
     case measure=>rw [eD,eD];omega
    | false =>
     rw [hi,if_neg (by decide)] at hs;rw [hi] at HJ;have HS:=ae hs;clear hd hb hs;go_wp2_with fail;refine HD.out.mono ?_;rintro e u ⟨rfl,rfl⟩;go_wp2_with fail;refine HJ.out.mono ?_;rintro e u ⟨rfl,rfl⟩;go_wp2;go_roundw
     case rel=>exact ⟨k+1,rfl,by rw [<- fR.out,HS.out],by first|rfl|(congr 1),dE⟩
     case measure=>rw [eD,eD];omega
   ·obtain rfl:k=K:=by omega
    have fS:=ae (show bJ d 1 k 0 0=PV from HF.out);rw [fS.out];clear fS HF;by_cases hp:k<d.size
    ·have key:∃(wd:Nat) (c:Int),(∀ty,(Instr.next (.pointer (some ⟨w.heap.size+1,0,none⟩)) true ty).run Tryz.prog ((wA w).iter d k)=.ok (.tuple #[.bool true,.int .i64 k,.int .i32 c]) ((wA w).iter d (k+wd)))/\dg c=false:=by
      by_cases hb:bt d k<128
      ·exact ⟨1,bt d k,fun ty=>jo w d k hp hb ty,HN.out hp⟩
      ·exact ⟨_,_,fun ty=>qH w d k hp ty,pK (nU d k hp hb).1⟩
     obtain ⟨wd,c,hnx,fI⟩:=key;have HD:=ae (gK c ((wA w).iter d (k+wd)));rw [fI] at HD;clear fI HN HA;go_wp2_with fail;refine HD.out.mono ?_;rintro e u ⟨rfl,rfl⟩;obtain ⟨W2,aY,hth,z5,z6,z7,z8,hbl⟩:=((An.start w).on (ij (wA w) d (k+wd))).put (.int .i64 4) (.string ⟨#[]⟩) (.int .i64 PV) (.int .i64 0);have HW2:=ae aY;have az:=ae hth;have ck:=ae hbl;clear aY hth hbl;go_wp2_with fail;refine (HI.out _).mono ?_;rintro e u ⟨rfl,rfl⟩;go_wp2_with (refine wpList_store_mid rfl 47 (.tmp 2) (.tmp 55) rfl w.heap.size 0 #[.int .i64 4,.string ⟨#[]⟩,.int .i64 PV,.int .i64 0] rfl rfl az.out fB (by simp [Value.oneCell']) ?_;rw [HW2.out]);refine bodyPost_ret (v:=.tuple #[.agg #[.int .i64 4,.string ⟨#[]⟩,.int .i64 PV,.int .i64 0],.int .i64 (k:Nat),.int .i64 0]) (by simp [results,Tryz.results114,go_sem,z5,z6,z7,z8]) rfl ⟨congrArg _ HO.out.symm,ck.out⟩
    ·have hnx:∀ty,(Instr.next (.pointer (some ⟨w.heap.size+1,0,none⟩)) true ty).run Tryz.prog ((wA w).iter d k)=_:=fun ty=>qI w d k hp ty;clear HN HA;obtain ⟨W2,aY,hth,z5,z6,z7,z8,hbl⟩:=((An.start w).on (ij (wA w) d k)).put (.int .i64 4) (.string ⟨#[]⟩) (.int .i64 PV) (.int .i64 0);have HW2:=ae aY;have az:=ae hth;have ck:=ae hbl;clear aY hth hbl;go_wp2_with fail;refine (HI.out _).mono ?_;rintro e u ⟨rfl,rfl⟩;go_wp2_with (refine wpList_store_mid rfl 47 (.tmp 2) (.tmp 55) rfl w.heap.size 0 #[.int .i64 4,.string ⟨#[]⟩,.int .i64 PV,.int .i64 0] rfl rfl az.out fB (by simp [Value.oneCell']) ?_;rw [HW2.out]);refine bodyPost_ret (v:=.tuple #[.agg #[.int .i64 4,.string ⟨#[]⟩,.int .i64 PV,.int .i64 0],.int .i64 (k:Nat),.int .i64 0]) (by simp [results,Tryz.results114,go_sem,z5,z6,z7,z8]) rfl ⟨congrArg _ HO.out.symm,ck.out⟩
 ·have z3:decide ((K:Int) > 1)=false:=decide_eq_false (fun h=>z2 (Int.ofNat_lt.1 h));clear h2;clear hc hK fJ h1;obtain ⟨d,hd⟩:∃d,d=s:=⟨_,rfl⟩;subst hd;go_enter Tryz.func114,Tryz.ntmps114;go_wp2;go_loopw [7,8] (fun n l w'=>∃k:Nat,w'=(wA w).iter d k/\n=.int .i64 (bJ d 1 k 0 0)/\l=.int .i64 k/\k<=K) (fun _ _ w'=>d.size-w'.iterPos (w.heap.size+1))
  case atStart=>exact ⟨0,rfl,rfl,rfl,Nat.zero_le _⟩
  case round =>
   obtain ⟨k,rfl,rfl,rfl,hk⟩:=hrel;by_cases dE:k<K
   ·have hd:=jX (HA.out k dE);have hp:k<d.size:=by have:=fK.out;omega
    have hnx:∀ty,(Instr.next (.pointer (some ⟨w.heap.size+1,0,none⟩)) true ty).run Tryz.prog ((wA w).iter d k)=_:=fun ty=>jo w d k hp (by omega) ty;have HD:=ae (gK (bt d k) ((wA w).iter d (k+1)));rw [HA.out k dE] at HD;have hb:=mi d 1 (by decide) k fun j hj=>HA.out j (by omega);have hs:=nK d 1 k 0 0;rw [Nat.zero_add] at hs;have HJ:=ae (mo (bJ d 1 k 0 0) ((wA w).iter d (k+1)) (by omega) (by omega));have hwl:wrap64 ((k:Int)+1)=((k+1:Nat):Int):=by have:=kO.out;unfold wrap64;omega
    obtain ⟨V',hV'⟩:∃V',V'=bJ d 1 (k+1) 0 0:=⟨_,rfl⟩;rw [<- hV'] at hs;have fR:=ae hV';clear hV' HF;generalize bJ d 1 k 0 0=V at *;generalize bt d k=c at *;cases hi:ez V with
    | true =>
     rw [hi,if_pos rfl] at hs;rw [hi] at HJ;have hw1:wrap64 (V*10)=V*10:=by unfold wrap64;omega
     have hw2:IntKind.i32.wrap (c-48)=c-48:=by rw [IntKind.wrap_i32];omega
     have sj:wrap32 (c-48)=c-48:=by unfold wrap32;omega
     have hw3:wrap64 (1*(c-48))=1*(c-48):=by unfold wrap64;omega
     have hw4:wrap64 (V*10+1*(c-48))=V':=by rw [hs];unfold wrap64;omega
     have ja:=ae hw4;clear hd hb hs;go_wp2_with fail;refine HD.out.mono ?_;rintro e u ⟨rfl,rfl⟩;go_wp2_with fail;refine HJ.out.mono ?_;rintro e u ⟨rfl,rfl⟩;go_wp2;go_roundw
     case rel=>exact ⟨k+1,rfl,by rw [<- fR.out,<- ja.out];first|rfl|(congr 1;done)|(congr 1;unfold wrap64;omega),by first|rfl|(congr 1),dE⟩
     case measure=>rw [eD,eD];omega
    | false =>
     rw [hi,if_neg (by decide)] at hs;rw [hi] at HJ;have HS:=ae hs;clear hd hb hs;go_wp2_with fail;refine HD.out.mono ?_;rintro e u ⟨rfl,rfl⟩;go_wp2_with fail;refine HJ.out.mono ?_;rintro e u ⟨rfl,rfl⟩;go_wp2;go_roundw
     case rel=>exact ⟨k+1,rfl,by rw [<- fR.out,HS.out],by first|rfl|(congr 1),dE⟩
     case measure=>rw [eD,eD];omega
   ·obtain rfl:k=K:=by omega
    have fS:=ae (show bJ d 1 k 0 0=PV from HF.out);rw [fS.out];clear fS HF;by_cases hp:k<d.size
    ·have key:∃(wd:Nat) (c:Int),(∀ty,(Instr.next (.pointer (some ⟨w.heap.size+1,0,none⟩)) true ty).run Tryz.prog ((wA w).iter d k)=.ok (.tuple #[.bool true,.int .i64 k,.int .i32 c]) ((wA w).iter d (k+wd)))/\dg c=false:=by
      by_cases hb:bt d k<128
      ·exact ⟨1,bt d k,fun ty=>jo w d k hp hb ty,HN.out hp⟩
      ·exact ⟨_,_,fun ty=>qH w d k hp ty,pK (nU d k hp hb).1⟩
     obtain ⟨wd,c,hnx,fI⟩:=key;have HD:=ae (gK c ((wA w).iter d (k+wd)));rw [fI] at HD;clear fI HN HA;go_wp2_with fail;refine HD.out.mono ?_;rintro e u ⟨rfl,rfl⟩;obtain ⟨W2,aY,hth,z5,z6,z7,z8,hbl⟩:=((An.start w).on (ij (wA w) d (k+wd))).put (.int .i64 4) (.string ⟨#[]⟩) (.int .i64 PV) (.int .i64 0);have HW2:=ae aY;have az:=ae hth;have ck:=ae hbl;clear aY hth hbl;go_wp2_with fail;refine (HI.out _).mono ?_;rintro e u ⟨rfl,rfl⟩;go_wp2_with (refine wpList_store_mid rfl 47 (.tmp 2) (.tmp 55) rfl w.heap.size 0 #[.int .i64 4,.string ⟨#[]⟩,.int .i64 PV,.int .i64 0] rfl rfl az.out fB (by simp [Value.oneCell']) ?_;rw [HW2.out]);refine bodyPost_ret (v:=.tuple #[.agg #[.int .i64 4,.string ⟨#[]⟩,.int .i64 PV,.int .i64 0],.int .i64 (k:Nat),.int .i64 0]) (by simp [results,Tryz.results114,go_sem,z5,z6,z7,z8]) rfl ⟨congrArg _ HO.out.symm,ck.out⟩
    ·have hnx:∀ty,(Instr.next (.pointer (some ⟨w.heap.size+1,0,none⟩)) true ty).run Tryz.prog ((wA w).iter d k)=_:=fun ty=>qI w d k hp ty;clear HN HA;obtain ⟨W2,aY,hth,z5,z6,z7,z8,hbl⟩:=((An.start w).on (ij (wA w) d k)).put (.int .i64 4) (.string ⟨#[]⟩) (.int .i64 PV) (.int .i64 0);have HW2:=ae aY;have az:=ae hth;have ck:=ae hbl;clear aY hth hbl;go_wp2_with fail;refine (HI.out _).mono ?_;rintro e u ⟨rfl,rfl⟩;go_wp2_with (refine wpList_store_mid rfl 47 (.tmp 2) (.tmp 55) rfl w.heap.size 0 #[.int .i64 4,.string ⟨#[]⟩,.int .i64 PV,.int .i64 0] rfl rfl az.out fB (by simp [Value.oneCell']) ?_;rw [HW2.out]);refine bodyPost_ret (v:=.tuple #[.agg #[.int .i64 4,.string ⟨#[]⟩,.int .i64 PV,.int .i64 0],.int .i64 (k:Nat),.int .i64 0]) (by simp [results,Tryz.results114,go_sem,z5,z6,z7,z8]) rfl ⟨congrArg _ HO.out.symm,ck.out⟩
theorem aa5 (s:ByteArray) (h0:0<s.size) (h63:s.size<9223372036854775807) (hc:bt s 0=126) (h1:0<en (s.extract 1 s.size) dg 0) (h2:¬ (1<en (s.extract 1 s.size) dg 0/\bt (s.extract 1 s.size) 0=48)) (h3:ez (bJ (s.extract 1 s.size) (-1) (en (s.extract 1 s.size) dg 0) 0 0)=true) (w:World):Calls Tryz.prog 114 #[.string s] w fun e w'=>e=.returned (ik (some (bJ (s.extract 1 s.size) (-1) (en (s.extract 1 s.size) dg 0) 0 0,1+en (s.extract 1 s.size) dg 0)))/\Below w.heap.size w w':=by
 have hx:=fun (w:World)=>jZ s h0 w (P:=Tryz.prog) 9 Tryz.underlying9;have q0:(bt s 0 == 126)=true:=beq_iff_eq.2 hc;have hsz:(s.extract 1 s.size).size=s.size-1:=qb s 1;have HA:=ae (fun j (h:j<en (s.extract 1 s.size) dg 0)=>p9 (s.extract 1 s.size) dg (Nat.zero_le j) h);have fK:=ae (kJ (s.extract 1 s.size) dg (Nat.zero_le _));have HN:=ae (uM (s.extract 1 s.size) dg (i:=0));obtain ⟨K,hK⟩:∃K,en (s.extract 1 s.size) dg 0=K:=⟨_,rfl⟩;obtain ⟨PV,fJ⟩:∃PV,bJ (s.extract 1 s.size) (-1) K 0 0=PV:=⟨_,rfl⟩;have HF:=ae fJ;rw [hK,fJ] at h3;obtain ⟨E,hE⟩:∃E:Nat,E=1+K:=⟨_,rfl⟩;rw [hK,fJ,<- hE];rw [hK] at HA fK HN h1 h2;have jV:=ae (mi (s.extract 1 s.size) (-1) (by decide) K fun j hj=>HA.out j hj);rw [fJ] at jV;have HI:=ae (fun w=>mo PV w (by have:=jV.out;omega) (by have:=jV.out;omega));rw [h3] at HI;have HO:Hid (ik (some (PV,E))=.tuple #[.agg #[.int .i64 4,.string ⟨#[]⟩,.int .i64 PV,.int .i64 0],.int .i64 (E:Nat),.int .i64 0]):=ae rfl;generalize ik (some (PV,E))=OUT at HO ⊢;have kO:Hid ((s.extract 1 s.size).size<9223372036854775807):=ae (aS _ _ hsz h63);have z1:((K:Int) == 0)=false:=beq_eq_false_iff_ne.2 (by omega);have hy:=fun (w:World)=>jZ (s.extract 1 s.size) (by have:=fK.out;omega) w (P:=Tryz.prog) 9 Tryz.underlying9;obtain ⟨hwz,adB⟩:=aZ s.size _ hsz h0 h63;obtain ⟨hwe,adC,adD⟩:=aE K s.size _ E hsz h0 h63 fK.out hE;clear hE;by_cases z2:1<K
 ·have z3:decide ((K:Int) > 1)=true:=decide_eq_true (Int.ofNat_lt.2 z2);have z4:(bt (s.extract 1 s.size) 0 == 48)=false:=beq_eq_false_iff_ne.2 (fun h=>h2 ⟨z2,h⟩);clear h2;clear hc hK fJ h1 hsz;go_enter Tryz.func114,Tryz.ntmps114;go_wp2;generalize s.extract 1 s.size=d at *;go_loopw [7,8] (fun n l w'=>∃k:Nat,w'=(wA w).iter d k/\n=.int .i64 (bJ d (-1) k 0 0)/\l=.int .i64 k/\k<=K) (fun _ _ w'=>d.size-w'.iterPos (w.heap.size+1))
  case atStart=>exact ⟨0,rfl,rfl,rfl,Nat.zero_le _⟩
  case round =>
   obtain ⟨k,rfl,rfl,rfl,hk⟩:=hrel;by_cases dE:k<K
   ·have hd:=jX (HA.out k dE);have hp:k<d.size:=by have:=fK.out;omega
    have hnx:∀ty,(Instr.next (.pointer (some ⟨w.heap.size+1,0,none⟩)) true ty).run Tryz.prog ((wA w).iter d k)=_:=fun ty=>jo w d k hp (by omega) ty;have HD:=ae (gK (bt d k) ((wA w).iter d (k+1)));rw [HA.out k dE] at HD;have hb:=mi d (-1) (by decide) k fun j hj=>HA.out j (by omega);have hs:=nK d (-1) k 0 0;rw [Nat.zero_add] at hs;have HJ:=ae (mo (bJ d (-1) k 0 0) ((wA w).iter d (k+1)) (by omega) (by omega));have hwl:wrap64 ((k:Int)+1)=((k+1:Nat):Int):=by have:=kO.out;unfold wrap64;omega
    obtain ⟨V',hV'⟩:∃V',V'=bJ d (-1) (k+1) 0 0:=⟨_,rfl⟩;rw [<- hV'] at hs;have fR:=ae hV';clear hV' HF;generalize bJ d (-1) k 0 0=V at *;generalize bt d k=c at *;cases hi:ez V with
    | true =>
     rw [hi,if_pos rfl] at hs;rw [hi] at HJ;have hw1:wrap64 (V*10)=V*10:=by unfold wrap64;omega
     have hw2:IntKind.i32.wrap (c-48)=c-48:=by rw [IntKind.wrap_i32];omega
     have sj:wrap32 (c-48)=c-48:=by unfold wrap32;omega
     have hw3:wrap64 ((-1)*(c-48))=(-1)*(c-48):=by unfold wrap64;omega
     have hw4:wrap64 (V*10+(-1)*(c-48))=V':=by rw [hs];unfold wrap64;omega
     have ja:=ae hw4;clear hd hb hs;go_wp2_with fail;refine HD.out.mono ?_;rintro e u ⟨rfl,rfl⟩;go_wp2_with fail;refine HJ.out.mono ?_;rintro e u ⟨rfl,rfl⟩;go_wp2;go_roundw
     case rel=>exact ⟨k+1,rfl,by rw [<- fR.out,<- ja.out];first|rfl|(congr 1;done)|(congr 1;unfold wrap64;omega),by first|rfl|(congr 1),dE⟩
     case measure=>rw [eD,eD];omega
    | false =>
     rw [hi,if_neg (by decide)] at hs;rw [hi] at HJ;have HS:=ae hs;clear hd hb hs;go_wp2_with fail;refine HD.out.mono ?_;rintro e u ⟨rfl,rfl⟩;go_wp2_with fail;refine HJ.out.mono ?_;rintro e u ⟨rfl,rfl⟩;go_wp2;go_roundw
     case rel=>exact ⟨k+1,rfl,by rw [<- fR.out,HS.out],by first|rfl|(congr 1),dE⟩
     case measure=>rw [eD,eD];omega
   ·obtain rfl:k=K:=by omega
    have fS:=ae (show bJ d (-1) k 0 0=PV from HF.out);rw [fS.out];clear fS HF;by_cases hp:k<d.size
    ·have key:∃(wd:Nat) (c:Int),(∀ty,(Instr.next (.pointer (some ⟨w.heap.size+1,0,none⟩)) true ty).run Tryz.prog ((wA w).iter d k)=.ok (.tuple #[.bool true,.int .i64 k,.int .i32 c]) ((wA w).iter d (k+wd)))/\dg c=false:=by
      by_cases hb:bt d k<128
      ·exact ⟨1,bt d k,fun ty=>jo w d k hp hb ty,HN.out hp⟩
      ·exact ⟨_,_,fun ty=>qH w d k hp ty,pK (nU d k hp hb).1⟩
     obtain ⟨wd,c,hnx,fI⟩:=key;have HD:=ae (gK c ((wA w).iter d (k+wd)));rw [fI] at HD;clear fI HN HA;go_wp2_with fail;refine HD.out.mono ?_;rintro e u ⟨rfl,rfl⟩;obtain ⟨W2,aY,hth,z5,z6,z7,z8,hbl⟩:=((An.start w).on (ij (wA w) d (k+wd))).put (.int .i64 4) (.string ⟨#[]⟩) (.int .i64 PV) (.int .i64 0);have HW2:=ae aY;have az:=ae hth;have ck:=ae hbl;clear aY hth hbl;go_wp2_with fail;refine (HI.out _).mono ?_;rintro e u ⟨rfl,rfl⟩;go_wp2_with (refine wpList_store_mid rfl 47 (.tmp 2) (.tmp 55) rfl w.heap.size 0 #[.int .i64 4,.string ⟨#[]⟩,.int .i64 PV,.int .i64 0] rfl rfl az.out fB (by simp [Value.oneCell']) ?_;rw [HW2.out]);refine bodyPost_ret (v:=.tuple #[.agg #[.int .i64 4,.string ⟨#[]⟩,.int .i64 PV,.int .i64 0],.int .i64 (E:Nat),.int .i64 0]) (by simp [results,Tryz.results114,go_sem,z5,z6,z7,z8]) rfl ⟨congrArg _ HO.out.symm,ck.out⟩
    ·have hnx:∀ty,(Instr.next (.pointer (some ⟨w.heap.size+1,0,none⟩)) true ty).run Tryz.prog ((wA w).iter d k)=_:=fun ty=>qI w d k hp ty;clear HN HA;obtain ⟨W2,aY,hth,z5,z6,z7,z8,hbl⟩:=((An.start w).on (ij (wA w) d k)).put (.int .i64 4) (.string ⟨#[]⟩) (.int .i64 PV) (.int .i64 0);have HW2:=ae aY;have az:=ae hth;have ck:=ae hbl;clear aY hth hbl;go_wp2_with fail;refine (HI.out _).mono ?_;rintro e u ⟨rfl,rfl⟩;go_wp2_with (refine wpList_store_mid rfl 47 (.tmp 2) (.tmp 55) rfl w.heap.size 0 #[.int .i64 4,.string ⟨#[]⟩,.int .i64 PV,.int .i64 0] rfl rfl az.out fB (by simp [Value.oneCell']) ?_;rw [HW2.out]);refine bodyPost_ret (v:=.tuple #[.agg #[.int .i64 4,.string ⟨#[]⟩,.int .i64 PV,.int .i64 0],.int .i64 (E:Nat),.int .i64 0]) (by simp [results,Tryz.results114,go_sem,z5,z6,z7,z8]) rfl ⟨congrArg _ HO.out.symm,ck.out⟩
 ·have z3:decide ((K:Int) > 1)=false:=decide_eq_false (fun h=>z2 (Int.ofNat_lt.1 h));clear h2;clear hc hK fJ h1 hsz;go_enter Tryz.func114,Tryz.ntmps114;go_wp2;generalize s.extract 1 s.size=d at *;go_loopw [7,8] (fun n l w'=>∃k:Nat,w'=(wA w).iter d k/\n=.int .i64 (bJ d (-1) k 0 0)/\l=.int .i64 k/\k<=K) (fun _ _ w'=>d.size-w'.iterPos (w.heap.size+1))
  case atStart=>exact ⟨0,rfl,rfl,rfl,Nat.zero_le _⟩
  case round =>
   obtain ⟨k,rfl,rfl,rfl,hk⟩:=hrel;by_cases dE:k<K
   ·have hd:=jX (HA.out k dE);have hp:k<d.size:=by have:=fK.out;omega
    have hnx:∀ty,(Instr.next (.pointer (some ⟨w.heap.size+1,0,none⟩)) true ty).run Tryz.prog ((wA w).iter d k)=_:=fun ty=>jo w d k hp (by omega) ty;have HD:=ae (gK (bt d k) ((wA w).iter d (k+1)));rw [HA.out k dE] at HD;have hb:=mi d (-1) (by decide) k fun j hj=>HA.out j (by omega);have hs:=nK d (-1) k 0 0;rw [Nat.zero_add] at hs;have HJ:=ae (mo (bJ d (-1) k 0 0) ((wA w).iter d (k+1)) (by omega) (by omega));have hwl:wrap64 ((k:Int)+1)=((k+1:Nat):Int):=by have:=kO.out;unfold wrap64;omega
    obtain ⟨V',hV'⟩:∃V',V'=bJ d (-1) (k+1) 0 0:=⟨_,rfl⟩;rw [<- hV'] at hs;have fR:=ae hV';clear hV' HF;generalize bJ d (-1) k 0 0=V at *;generalize bt d k=c at *;cases hi:ez V with
    | true =>
     rw [hi,if_pos rfl] at hs;rw [hi] at HJ;have hw1:wrap64 (V*10)=V*10:=by unfold wrap64;omega
     have hw2:IntKind.i32.wrap (c-48)=c-48:=by rw [IntKind.wrap_i32];omega
     have sj:wrap32 (c-48)=c-48:=by unfold wrap32;omega
     have hw3:wrap64 ((-1)*(c-48))=(-1)*(c-48):=by unfold wrap64;omega
     have hw4:wrap64 (V*10+(-1)*(c-48))=V':=by rw [hs];unfold wrap64;omega
     have ja:=ae hw4;clear hd hb hs;go_wp2_with fail;refine HD.out.mono ?_;rintro e u ⟨rfl,rfl⟩;go_wp2_with fail;refine HJ.out.mono ?_;rintro e u ⟨rfl,rfl⟩;go_wp2;go_roundw
     case rel=>exact ⟨k+1,rfl,by rw [<- fR.out,<- ja.out];first|rfl|(congr 1;done)|(congr 1;unfold wrap64;omega),by first|rfl|(congr 1),dE⟩
     case measure=>rw [eD,eD];omega
    | false =>
     rw [hi,if_neg (by decide)] at hs;rw [hi] at HJ;have HS:=ae hs;clear hd hb hs;go_wp2_with fail;refine HD.out.mono ?_;rintro e u ⟨rfl,rfl⟩;go_wp2_with fail;refine HJ.out.mono ?_;rintro e u ⟨rfl,rfl⟩;go_wp2;go_roundw
     case rel=>exact ⟨k+1,rfl,by rw [<- fR.out,HS.out],by first|rfl|(congr 1),dE⟩
     case measure=>rw [eD,eD];omega
   ·obtain rfl:k=K:=by omega
    have fS:=ae (show bJ d (-1) k 0 0=PV from HF.out);rw [fS.out];clear fS HF;by_cases hp:k<d.size
    ·have key:∃(wd:Nat) (c:Int),(∀ty,(Instr.next (.pointer (some ⟨w.heap.size+1,0,none⟩)) true ty).run Tryz.prog ((wA w).iter d k)=.ok (.tuple #[.bool true,.int .i64 k,.int .i32 c]) ((wA w).iter d (k+wd)))/\dg c=false:=by
      by_cases hb:bt d k<128
      ·exact ⟨1,bt d k,fun ty=>jo w d k hp hb ty,HN.out hp⟩
      ·exact ⟨_,_,fun ty=>qH w d k hp ty,pK (nU d k hp hb).1⟩
     obtain ⟨wd,c,hnx,fI⟩:=key;have HD:=ae (gK c ((wA w).iter d (k+wd)));rw [fI] at HD;clear fI HN HA;go_wp2_with fail;refine HD.out.mono ?_;rintro e u ⟨rfl,rfl⟩;obtain ⟨W2,aY,hth,z5,z6,z7,z8,hbl⟩:=((An.start w).on (ij (wA w) d (k+wd))).put (.int .i64 4) (.string ⟨#[]⟩) (.int .i64 PV) (.int .i64 0);have HW2:=ae aY;have az:=ae hth;have ck:=ae hbl;clear aY hth hbl;go_wp2_with fail;refine (HI.out _).mono ?_;rintro e u ⟨rfl,rfl⟩;go_wp2_with (refine wpList_store_mid rfl 47 (.tmp 2) (.tmp 55) rfl w.heap.size 0 #[.int .i64 4,.string ⟨#[]⟩,.int .i64 PV,.int .i64 0] rfl rfl az.out fB (by simp [Value.oneCell']) ?_;rw [HW2.out]);refine bodyPost_ret (v:=.tuple #[.agg #[.int .i64 4,.string ⟨#[]⟩,.int .i64 PV,.int .i64 0],.int .i64 (E:Nat),.int .i64 0]) (by simp [results,Tryz.results114,go_sem,z5,z6,z7,z8]) rfl ⟨congrArg _ HO.out.symm,ck.out⟩
    ·have hnx:∀ty,(Instr.next (.pointer (some ⟨w.heap.size+1,0,none⟩)) true ty).run Tryz.prog ((wA w).iter d k)=_:=fun ty=>qI w d k hp ty;clear HN HA;obtain ⟨W2,aY,hth,z5,z6,z7,z8,hbl⟩:=((An.start w).on (ij (wA w) d k)).put (.int .i64 4) (.string ⟨#[]⟩) (.int .i64 PV) (.int .i64 0);have HW2:=ae aY;have az:=ae hth;have ck:=ae hbl;clear aY hth hbl;go_wp2_with fail;refine (HI.out _).mono ?_;rintro e u ⟨rfl,rfl⟩;go_wp2_with (refine wpList_store_mid rfl 47 (.tmp 2) (.tmp 55) rfl w.heap.size 0 #[.int .i64 4,.string ⟨#[]⟩,.int .i64 PV,.int .i64 0] rfl rfl az.out fB (by simp [Value.oneCell']) ?_;rw [HW2.out]);refine bodyPost_ret (v:=.tuple #[.agg #[.int .i64 4,.string ⟨#[]⟩,.int .i64 PV,.int .i64 0],.int .i64 (E:Nat),.int .i64 0]) (by simp [results,Tryz.results114,go_sem,z5,z6,z7,z8]) rfl ⟨congrArg _ HO.out.symm,ck.out⟩
theorem NT (s:ByteArray):s.extract 0 s.size=s:=by simp
theorem RV (s:ByteArray) (h0:0<s.size) (h63:s.size<9223372036854775807) (w:World):Calls Tryz.prog 114 #[.string s] w fun e w'=>e=.returned (ik (num s 0 (if bt s 0=126 then 1 else 0)))/\Below w.heap.size w w':=by
 by_cases hc:bt s 0=126
 ·rw [if_pos hc,EJ s 0 1 h0,if_pos (by decide)];unfold Ck;by_cases h1:en (s.extract 1 s.size) dg 0=0
  ·rw [if_pos (.inl h1)];exact aaZ s h0 h63 hc h1 w
  ·by_cases h2:1<en (s.extract 1 s.size) dg 0/\bt (s.extract 1 s.size) 0=48
   ·rw [if_pos (.inr (.inl h2))];exact aa1 s h0 h63 hc h2.1 h2.2 w
   ·cases h3:ez (bJ (s.extract 1 s.size) (-1) (en (s.extract 1 s.size) dg 0) 0 0) with
    | false=>rw [if_pos (.inr (.inr rfl))];exact aa3 s h0 h63 hc (by omega) h2 h3 w
    | true=>rw [if_neg (by rintro (h|h|h);exact h1 h;exact h2 h;cases h)];exact aa5 s h0 h63 hc (by omega) h2 h3 w
 ·rw [if_neg hc,EJ s 0 0 (Nat.zero_le _),if_neg (by decide),NT];unfold Ck;by_cases h1:en s dg 0=0
  ·rw [if_pos (.inl h1)];exact aaY s h0 h63 hc h1 w
  ·by_cases h2:1<en s dg 0/\bt s 0=48
   ·rw [if_pos (.inr (.inl h2))];exact aa0 s h0 h63 hc h2.1 h2.2 w
   ·cases h3:ez (bJ s 1 (en s dg 0) 0 0) with
    | false=>rw [if_pos (.inr (.inr rfl))];exact aa2 s h0 h63 hc (by omega) h2 h3 w
    | true=>rw [if_neg (by rintro (h|h|h);exact h1 h;exact h2 h;cases h)];simp only [Option.map,Nat.zero_add];exact aa4 s h0 h63 hc (by omega) h2 h3 w
end Go.Proofs.YtkdbgopgjbfhbaaGreatDoor
