/- Texts that the claim needs. -/
import Derived.Test.YtkdbgopgjbfhbaaGreatDoorQPS1
import Derived.Deep.MidRow
namespace Go.Proofs.YtkdbgopgjbfhbaaGreatDoor
open Go.RowKit Lx
set_option linter.unusedVariables false
set_option maxHeartbeats 8000000
set_option maxRecDepth 100000
theorem OV (s:ByteArray) (i:Nat) (hi:i<=s.size) (h63:s.size<9223372036854775807) (w:World):Calls Tryz.prog 52 #[.string s,.int .i64 i] w fun e w'=>e=.returned (.int .i64 (sk s false i:Nat))/\w'=w:=by
 obtain ⟨R,hR⟩:∃R,R=sk s false i:=⟨_,rfl⟩;have st0:=ae hR.symm;rw [<- hR];clear hR;go_enter Tryz.func52,Tryz.ntmps52;go_wp2_with fail
 go_loop [1] (fun a=>∃k:Nat,a=.int .i64 k/\k<=s.size/\Hid (sk s false k=R)) (fun a=>match a with | .int _ k=>s.size-k.toNat|_=>0)
 case atStart=>exact ⟨i,rfl,hi,st0⟩
 case round =>
  obtain ⟨k,rfl,hk,hR⟩:=hrel;clear st0 hi;by_cases hp:k<s.size
  ·have q1:decide ((k:Int)<(s.size:Int))=true:=decide_eq_true (by omega);have hx:=fun (w:World)=>jP s k hp w (P:=Tryz.prog) 9 Tryz.underlying9;have hw1:wrap64 ((k:Int)+1)=((k+1:Nat):Int):=by unfold wrap64;omega
   have hs:=qZ s false hp;rw [hR.out] at hs;have hbb:bl (bt s k)=(bt s k == 9 || bt s k == 10 || bt s k == 13 || bt s k == 32):=rfl;cases h1:bl (bt s k) with
   | true =>
    have HR:Hid (R=sk s false (k+1)):=by
     rw [h1] at hs;by_cases h10:bt s k=10
     ·rw [if_pos h10] at hs;exact hs
     ·have h35:bt s k≠35:=fun e=>by rw [e] at h1;cases h1
      rw [if_neg h10,if_neg (by decide),if_neg h35,if_pos rfl] at hs;exact hs
    rw [h1] at hbb;generalize bt s k=c at *;clear hs hR h1;cases z1:c == 9 with
    | true =>
     clear hbb;go_wp2
     go_round
     case rel=>exact ⟨k+1,by first|rfl|(congr 1),hp,ae HR.out.symm⟩
     case measure=>simp;omega
    | false =>
     cases z2:c == 10 with
     | true =>
      clear hbb;go_wp2
      go_round
      case rel=>exact ⟨k+1,by first|rfl|(congr 1),hp,ae HR.out.symm⟩
      case measure=>simp;omega
     | false =>
      cases z3:c == 13 with
      | true =>
       clear hbb;go_wp2
       go_round
       case rel=>exact ⟨k+1,by first|rfl|(congr 1),hp,ae HR.out.symm⟩
       case measure=>simp;omega
      | false =>
       have z4:(c == 32)=true:=by rw [z1,z2,z3] at hbb;exact hbb.symm
       clear hbb;go_wp2
       go_round
       case rel=>exact ⟨k+1,by first|rfl|(congr 1),hp,ae HR.out.symm⟩
       case measure=>simp;omega
   | false =>
    rw [h1] at hbb;have z1:(bt s k == 9)=false:=by cases h:(bt s k == 9);rfl;rw [h] at hbb;simp at hbb
    have z2:(bt s k == 10)=false:=by cases h:(bt s k == 10);rfl;rw [h] at hbb;simp at hbb
    have z3:(bt s k == 13)=false:=by cases h:(bt s k == 13);rfl;rw [h] at hbb;simp at hbb
    have z4:(bt s k == 32)=false:=by cases h:(bt s k == 32);rfl;rw [h] at hbb;simp at hbb
    rw [if_neg (by simpa using z2),if_neg (by decide),h1] at hs;cases z5:bt s k == 35 with
    | false =>
     rw [if_neg (by simpa using z5),if_neg (by decide)] at hs;have HR:=ae hs;generalize bt s k=c at *;clear hs hR h1 hbb;go_wp2;go_ret;exact ⟨rO (by rw [HR.out]),rfl⟩
    | true =>
     rw [if_pos (by simpa using z5)] at hs;have hT:sk s true k=sk s true (k+1):=by rw [qZ s true hp,if_neg (by simpa using z2),if_pos rfl]
     have HT:=ae (hT.trans hs.symm);have HZ:=ae z2;have z2':=z2;generalize hcc:bt s k=c at *;have G7:=ae hcc;clear hs hR h1 hbb hT hcc z2';go_wp2_with fail
     go_loop [1] (fun a=>∃j:Nat,a=.int .i64 j/\k<=j/\j<=s.size/\Hid (sk s true j=R)) (fun a=>match a with | .int _ k=>s.size-k.toNat|_=>0)
     case atStart=>exact ⟨k,rfl,Nat.le_refl _,hk,HT⟩
     case round =>
      obtain ⟨j,rfl,hj0,qO,hJ⟩:=hrel;clear hx HT z1 z2 z3 z4 z5 hw1 q1;by_cases BK:j<s.size
      ·have q1:decide ((j:Int)<(s.size:Int))=true:=decide_eq_true (by omega);have hx:=fun (w:World)=>jP s j BK w (P:=Tryz.prog) 9 Tryz.underlying9;have hw1:wrap64 ((j:Int)+1)=((j+1:Nat):Int):=by unfold wrap64;omega
       have hs:=qZ s true BK;rw [hJ.out] at hs;by_cases h10:bt s j=10
       ·rw [if_pos h10] at hs;have hs2:sk s false j=sk s false (j+1):=by rw [qZ s false BK,if_pos h10]
        have HR:=ae (hs2.trans hs.symm)
        have hne:j≠k:=fun e=>by
         subst e;have h:=HZ.out;rw [<- G7.out,h10] at h;cases h
        have q2:(bt s j != 10)=false:=by rw [h10];rfl
        generalize bt s j=d at *;clear hs hs2 h10 hJ HZ G7;go_wp2
        go_round
        case rel=>exact ⟨j,rfl,by omega,HR⟩
        case measure=>simp;omega
       ·rw [if_neg h10,if_pos rfl] at hs;have HR:=ae hs;have q2:(bt s j != 10)=true:=by unfold bne;rw [beq_eq_false_iff_ne.2 h10];rfl
        generalize bt s j=d at *;clear hs h10 hJ HZ G7;go_wp2
        go_round
        case rel=>exact ⟨j+1,by first|rfl|(congr 1),by omega,BK,ae HR.out.symm⟩
        case measure=>simp;omega
      ·have q1:decide ((j:Int)<(s.size:Int))=false:=decide_eq_false (by omega);have hs:=AU s true BK;rw [hJ.out] at hs;have HR:=ae ((AU s false BK).trans hs.symm);clear hs hJ HZ G7;go_wp2
       go_round
       case rel=>exact ⟨j,rfl,qO,HR⟩
       case measure=>simp;omega
  ·have q1:decide ((k:Int)<(s.size:Int))=false:=decide_eq_false (by omega);have HR:=ae (hR.out.symm.trans (AU s false hp));clear hR;go_wp2;go_ret;exact ⟨rO (by rw [HR.out]),rfl⟩
namespace Lx
theorem Vo (s:ByteArray) (i:Nat):∀(k:Nat),(∀j,i<=j->j<i+k->dg (bt s j)=true)->0<=bG s k i 0/\bG s k i 0<10 ^ k
 | 0,_=>⟨Int.le_refl _,by show (0:Int)<10 ^ 0;decide⟩
 | k+1,h=>by
  have ih:=Vo s i k fun j h1 h2=>h j h1 (by omega);have hd:=iK (h (i+k) (by omega) (by omega));rw [ym,Int.pow_succ];omega
theorem xL (s:ByteArray) (i k:Nat) (hk:k<=10) (h:∀j,i<=j->j<i+k->dg (bt s j)=true):0<=bG s k i 0/\bG s k i 0<=9999999999:=by
 have:=Vo s i k h
 have hc:k=0\/k=1\/k=2\/k=3\/k=4\/k=5\/k=6\/k=7\/k=8\/k=9\/k=10:=by omega
 generalize bG s k i 0=V at *;rcases hc with rfl|rfl|rfl|rfl|rfl|rfl|rfl|rfl|rfl|rfl|rfl<;>omega
def nY (s:ByteArray) (a f:Nat) (K:Int) (T:ByteArray) (N A E:Int) (ok:Bool):Prop :=
 match num s a f with
 | some (n,e)=>K=4/\T=⟨#[]⟩/\N=n/\A=a/\E=e/\ok=true
 | none=>ok=false
theorem ad2 {s:ByteArray} {a f:Nat} (h:en s dg f=f\/(1<en s dg f-f/\bt s f=48)\/10<en s dg f-f) {K:Int} {T:ByteArray} {N A E:Int}:nY s a f K T N A E false:=by
 unfold nY num;rw [if_pos h]
theorem ad3 {s:ByteArray} {a f:Nat} (h:¬ (en s dg f=f\/(1<en s dg f-f/\bt s f=48)\/10<en s dg f-f)) {V:Int} (hV:(if a<f then -bG s (en s dg f-f) f 0 else bG s (en s dg f-f) f 0)=V) {E:Int} (hE:E=en s dg f):nY s a f 4 ⟨#[]⟩ V a E (bV V):=by
 unfold nY num;rw [if_neg h,hV];cases hi:bV V with
 | true=>rw [if_pos rfl];exact ⟨rfl,rfl,rfl,rfl,hE,rfl⟩
 | false=>rw [if_neg (by decide)]
def ad4 (P:Int->ByteArray->Int->Int->Int->Bool->Prop) (e:Ending):Prop :=
 ∃K T N A E ok,e=.returned (.tuple #[.agg #[.int .i64 K,.string T,.int .i64 N,.int .i64 A],.int .i64 E,.bool ok])/\P K T N A E ok
end Lx
theorem Qe (s:ByteArray) (a f:Nat) (haf:a<=f) (hf:f<=s.size) (h63:s.size<9223372036854775807) (w:World) :
  Calls Tryz.prog 109 #[.string s,.int .i64 a,.int .i64 f] w fun e w'=>ad4 (nY s a f) e/\Below w.heap.size w w':=by
 obtain ⟨R,hR⟩:∃R,R=en s dg f:=⟨_,rfl⟩;have st0:=ae hR.symm;have HG:=ae (mh s dg f);have HL:=ae (ji s dg hf);have HA:=ae (fun j h1 h2=>mR s dg (i:=f) (j:=j) h1 h2);have kC:=ae (@ad2 s a f);have lH:=ae (@ad3 s a f);rw [<- hR] at HG HL HA kC lH;clear hR;generalize hP:nY s a f=P at *;clear hP;have hb0:=uJ s f;go_enter Tryz.func109,Tryz.ntmps109;go_wp2_with fail
 go_loop [9] (fun x=>∃k:Nat,x=.int .i64 k/\f<=k/\k<=s.size/\Hid (en s dg k=R)) (fun x=>match x with | .int _ k=>s.size-k.toNat|_=>0)
 case atStart=>exact ⟨f,rfl,Nat.le_refl _,hf,st0⟩
 case round =>
  obtain ⟨k,rfl,hk0,hk,hR⟩:=hrel;clear st0;by_cases hp:k<s.size
  ·have q9:decide ((k:Int)<(s.size:Int))=true:=decide_eq_true (by omega);have hy:=fun (w:World)=>jP s k hp w (P:=Tryz.prog) 9 Tryz.underlying9;have HD:=ae (FA (bt s k) (w.alloc (.cells #[.int .i64 0,.string ⟨#[]⟩,.int .i64 0,.int .i64 0] 47)));cases hb:dg (bt s k) with
   | true =>
    have HR:=ae (hR.out.symm.trans (oO s dg hp hb));have hw1:wrap64 ((k:Int)+1)=((k+1:Nat):Int):=by unfold wrap64;omega
    rw [hb] at HD;generalize bt s k=c at *;clear hb hR kC lH HA;go_wp2_with fail;refine HD.out.mono ?_;rintro e u ⟨rfl,rfl⟩;go_wp2
    go_round
    case rel=>exact ⟨k+1,by first|rfl|(congr 1),by omega,hp,ae HR.out.symm⟩
    case measure=>simp;omega
   | false =>
    obtain rfl:k=R:=(hR.out.symm.trans (zf s dg hb)).symm;rw [hb] at HD;generalize bt s k=c at *;clear hb hR;obtain ⟨L,hL⟩:∃L,k=f+L:=⟨k-f,by omega⟩;have fE:=ae hL;have wE:wrap64 ((k:Int)-(f:Int))=(L:Int):=by unfold wrap64;omega
    rw [show k-f=L by omega] at kC lH;by_cases z0:k=f
    ·have q0:((k:Int) == (f:Int))=true:=beq_iff_eq.2 (by omega);have HF:=ae (fun K T N A E=>kC.out (.inl z0) (K:=K) (T:=T) (N:=N) (A:=A) (E:=E));clear z0 hL kC lH HA;go_wp2_with fail;refine HD.out.mono ?_;rintro e u ⟨rfl,rfl⟩;go_wp2;refine bodyPost_ret (v:=.tuple #[.agg #[.int .i64 0,.string ⟨#[]⟩,.int .i64 0,.int .i64 0],.int .i64 0,.bool false]) (by simp [results,Tryz.results109,go_sem]) rfl ⟨⟨_,_,_,_,_,_,rfl,HF.out _ _ _ _ _⟩,by first|exact (Below.refl _ _).alloc (Nat.le_refl _) _|exact ((Below.refl _ _).alloc (Nat.le_refl _) _).setCell (Nat.le_refl _) _⟩
    ·have q0:((k:Int) == (f:Int))=false:=beq_eq_false_iff_ne.2 (by omega);have hx:=fun (w:World)=>jP s f (by omega) w (P:=Tryz.prog) 9 Tryz.underlying9;by_cases z1:1<L
     ·have q1:decide ((L:Int) > 1)=true:=decide_eq_true (by omega);have Aa:decide ((k:Int)-(f:Int) > 1)=true:=decide_eq_true (by omega);by_cases z2:bt s f=48
      ·have q2:(bt s f == 48)=true:=beq_iff_eq.2 z2;have HF:=ae (fun K T N A E=>kC.out (.inr (.inl ⟨z1,z2⟩)) (K:=K) (T:=T) (N:=N) (A:=A) (E:=E));generalize bt s f=c0 at *;clear z0 z1 z2 hL kC lH HA;go_wp2_with fail;refine HD.out.mono ?_;rintro e u ⟨rfl,rfl⟩;go_wp2;refine bodyPost_ret (v:=.tuple #[.agg #[.int .i64 0,.string ⟨#[]⟩,.int .i64 0,.int .i64 0],.int .i64 0,.bool false]) (by simp [results,Tryz.results109,go_sem]) rfl ⟨⟨_,_,_,_,_,_,rfl,HF.out _ _ _ _ _⟩,by first|exact (Below.refl _ _).alloc (Nat.le_refl _) _|exact ((Below.refl _ _).alloc (Nat.le_refl _) _).setCell (Nat.le_refl _) _⟩
      ·have q2:(bt s f == 48)=false:=beq_eq_false_iff_ne.2 z2;by_cases z3:10<L
       ·have q3:decide ((L:Int) > 10)=true:=decide_eq_true (by omega);have Ab:decide ((k:Int)-(f:Int) > 10)=true:=decide_eq_true (by omega);have HF:=ae (fun K T N A E=>kC.out (.inr (.inr z3)) (K:=K) (T:=T) (N:=N) (A:=A) (E:=E));generalize bt s f=c0 at *;clear z0 z1 z2 z3 hL kC lH HA;go_wp2_with fail;refine HD.out.mono ?_;rintro e u ⟨rfl,rfl⟩;go_wp2;refine bodyPost_ret (v:=.tuple #[.agg #[.int .i64 0,.string ⟨#[]⟩,.int .i64 0,.int .i64 0],.int .i64 0,.bool false]) (by simp [results,Tryz.results109,go_sem]) rfl ⟨⟨_,_,_,_,_,_,rfl,HF.out _ _ _ _ _⟩,by first|exact (Below.refl _ _).alloc (Nat.le_refl _) _|exact ((Below.refl _ _).alloc (Nat.le_refl _) _).setCell (Nat.le_refl _) _⟩
       ·have q3:decide ((L:Int) > 10)=false:=decide_eq_false (by omega);have Ab:decide ((k:Int)-(f:Int) > 10)=false:=decide_eq_false (by omega);have kY:=ae (fun V hV E hE=>lH.out (by rintro (h|h|h);exact z0 h;exact z2 h.2;exact z3 h) (V:=V) hV (E:=E) hE)
        have su:Hid (L<=10):=ae (by omega);generalize bt s f=c0 at *;clear z0 z1 z2 z3 hL kC lH;go_wp2_with fail;refine HD.out.mono ?_;rintro e u ⟨rfl,rfl⟩;go_wp2_with fail
        go_loop [10,11] (fun x y=>∃j p:Nat,x=.int .i64 (bG s j f 0)/\y=.int .i64 p/\j<=L/\Hid (p=f+j)) (fun _ y=>match y with | .int _ z=>k-z.toNat|_=>0)
        case atStart=>exact ⟨0,f,rfl,rfl,Nat.zero_le _,ae rfl⟩
        case round =>
         obtain ⟨j,p,rfl,rfl,hj,df⟩:=hrel
         try clear wE hx q0 q1 q2 Aa Eu q3 Ab
         by_cases hjl:j<L
         ·have xB:p<k:=by have:=fE.out;have:=df.out;omega
          have q1:decide ((p:Int)<(k:Int))=true:=decide_eq_true (by have:=fE.out;have:=df.out;omega);have hx:=fun (w:World)=>jP s p (by have:=fE.out;have:=HL.out;have:=df.out;omega) w (P:=Tryz.prog) 9 Tryz.underlying9;have hw1:wrap64 ((p:Int)+1)=((p+1:Nat):Int):=by have:=fE.out;have:=HL.out;have:=df.out;unfold wrap64;omega
          have hd:=iK (HA.out p (by have:=df.out;omega) (by have:=fE.out;have:=df.out;omega));have hvb:=xL s f j (by have:=su.out;omega) fun i h1 h2=>HA.out i h1 (by have:=fE.out;omega);have hs:=ym s j f 0;rw [<- df.out] at hs;generalize bG s j f 0=V at *;generalize bt s p=c at *;have hw2:wrap64 (V*10)=V*10:=by unfold wrap64;omega
          have hw3:IntKind.u8.wrap (c-48)=c-48:=by rw [IntKind.wrap_u8];omega
          have Mo:(c-48)%256=c-48:=by omega
          have hw4:wrap64 (V*10+(c-48))=bG s (j+1) f 0:=by rw [hs];unfold wrap64;omega
          obtain ⟨V',hV'⟩:∃V',V'=bG s (j+1) f 0:=⟨_,rfl⟩;rw [<- hV'] at hw4;have eX:=ae hV';clear hV';clear hd hvb hs;go_wp2
          go_round
          case rel=>exact ⟨j+1,p+1,by rw [<- eX.out];first|rfl|(rw [hw4]),by first|rfl|(congr 1),by omega,ae (by have:=df.out;omega)⟩
          case measure=>have:=fE.out;have:=df.out;simp;omega
         ·obtain rfl:j=L:=by omega
          have xB:¬ p<k:=by have:=fE.out;have:=df.out;omega
          have q1:decide ((p:Int)<(k:Int))=false:=decide_eq_false (by have:=fE.out;have:=df.out;omega);have hvb:=xL s f j su.out fun i h1 h2=>HA.out i h1 (by have:=fE.out;omega);by_cases h4:a<f
          ·have q2:decide ((f:Int) > (a:Int))=true:=decide_eq_true (by omega);have HF:=ae (kY.out (-bG s j f 0) (if_pos h4) k rfl);obtain ⟨N,hN⟩:∃N,N=-bG s j f 0:=⟨_,rfl⟩;rw [<- hN] at HF;have hwn:wrap64 (-bG s j f 0)=N:=by rw [hN];unfold wrap64;omega
           have HC:=fun (w:World)=>ae (uV N w);clear hvb kY hN;generalize bG s j f 0=V at *;go_wp2_with fail;refine (HC _).out.mono ?_;rintro e u ⟨rfl,rfl⟩;go_wp2;refine bodyPost_ret (v:=.tuple #[.agg #[.int .i64 4,.string ⟨#[]⟩,.int .i64 N,.int .i64 a],.int .i64 k,.bool (bV N)]) (by simp [results,Tryz.results109,go_sem]) rfl ⟨⟨_,_,_,_,_,_,rfl,HF.out⟩,by first|exact (Below.refl _ _).alloc (Nat.le_refl _) _|exact ((Below.refl _ _).alloc (Nat.le_refl _) _).setCell (Nat.le_refl _) _⟩
          ·have q2:decide ((f:Int) > (a:Int))=false:=decide_eq_false (by omega);have HF:=ae (kY.out (bG s j f 0) (if_neg h4) k rfl);have HC:=fun (w:World)=>ae (uV (bG s j f 0) w);generalize bG s j f 0=V at *;clear hvb kY;go_wp2_with fail;refine (HC _).out.mono ?_;rintro e u ⟨rfl,rfl⟩;go_wp2;refine bodyPost_ret (v:=.tuple #[.agg #[.int .i64 4,.string ⟨#[]⟩,.int .i64 V,.int .i64 a],.int .i64 k,.bool (bV V)]) (by simp [results,Tryz.results109,go_sem]) rfl ⟨⟨_,_,_,_,_,_,rfl,HF.out⟩,by first|exact (Below.refl _ _).alloc (Nat.le_refl _) _|exact ((Below.refl _ _).alloc (Nat.le_refl _) _).setCell (Nat.le_refl _) _⟩
     ·have q1:decide ((L:Int) > 1)=false:=decide_eq_false (by omega);have Aa:decide ((k:Int)-(f:Int) > 1)=false:=decide_eq_false (by omega);have q2:decide ((L:Int) > 10)=false:=decide_eq_false (by omega);have Eu:decide ((k:Int)-(f:Int) > 10)=false:=decide_eq_false (by omega);have kY:=ae (fun V hV E hE=>lH.out (by rintro (h|h|h);exact z0 h;exact z1 h.1;omega) (V:=V) hV (E:=E) hE)
      have su:Hid (L<=10):=ae (by omega);clear z0 z1 hL kC lH;go_wp2_with fail;refine HD.out.mono ?_;rintro e u ⟨rfl,rfl⟩;go_wp2_with fail
      go_loop [10,11] (fun x y=>∃j p:Nat,x=.int .i64 (bG s j f 0)/\y=.int .i64 p/\j<=L/\Hid (p=f+j)) (fun _ y=>match y with | .int _ z=>k-z.toNat|_=>0)
      case atStart=>exact ⟨0,f,rfl,rfl,Nat.zero_le _,ae rfl⟩
      case round =>
       obtain ⟨j,p,rfl,rfl,hj,df⟩:=hrel
       try clear wE hx q0 q1 q2 Aa Eu q3 Ab
       by_cases hjl:j<L
       ·have xB:p<k:=by have:=fE.out;have:=df.out;omega
        have q1:decide ((p:Int)<(k:Int))=true:=decide_eq_true (by have:=fE.out;have:=df.out;omega);have hx:=fun (w:World)=>jP s p (by have:=fE.out;have:=HL.out;have:=df.out;omega) w (P:=Tryz.prog) 9 Tryz.underlying9;have hw1:wrap64 ((p:Int)+1)=((p+1:Nat):Int):=by have:=fE.out;have:=HL.out;have:=df.out;unfold wrap64;omega
        have hd:=iK (HA.out p (by have:=df.out;omega) (by have:=fE.out;have:=df.out;omega));have hvb:=xL s f j (by have:=su.out;omega) fun i h1 h2=>HA.out i h1 (by have:=fE.out;omega);have hs:=ym s j f 0;rw [<- df.out] at hs;generalize bG s j f 0=V at *;generalize bt s p=c at *;have hw2:wrap64 (V*10)=V*10:=by unfold wrap64;omega
        have hw3:IntKind.u8.wrap (c-48)=c-48:=by rw [IntKind.wrap_u8];omega
        have Mo:(c-48)%256=c-48:=by omega
        have hw4:wrap64 (V*10+(c-48))=bG s (j+1) f 0:=by rw [hs];unfold wrap64;omega
        obtain ⟨V',hV'⟩:∃V',V'=bG s (j+1) f 0:=⟨_,rfl⟩;rw [<- hV'] at hw4;have eX:=ae hV';clear hV';clear hd hvb hs;go_wp2
        go_round
        case rel=>exact ⟨j+1,p+1,by rw [<- eX.out];first|rfl|(rw [hw4]),by first|rfl|(congr 1),by omega,ae (by have:=df.out;omega)⟩
        case measure=>have:=fE.out;have:=df.out;simp;omega
       ·obtain rfl:j=L:=by omega
        have xB:¬ p<k:=by have:=fE.out;have:=df.out;omega
        have q1:decide ((p:Int)<(k:Int))=false:=decide_eq_false (by have:=fE.out;have:=df.out;omega);have hvb:=xL s f j su.out fun i h1 h2=>HA.out i h1 (by have:=fE.out;omega);by_cases h4:a<f
        ·have q2:decide ((f:Int) > (a:Int))=true:=decide_eq_true (by omega);have HF:=ae (kY.out (-bG s j f 0) (if_pos h4) k rfl);obtain ⟨N,hN⟩:∃N,N=-bG s j f 0:=⟨_,rfl⟩;rw [<- hN] at HF;have hwn:wrap64 (-bG s j f 0)=N:=by rw [hN];unfold wrap64;omega
         have HC:=fun (w:World)=>ae (uV N w);clear hvb kY hN;generalize bG s j f 0=V at *;go_wp2_with fail;refine (HC _).out.mono ?_;rintro e u ⟨rfl,rfl⟩;go_wp2;refine bodyPost_ret (v:=.tuple #[.agg #[.int .i64 4,.string ⟨#[]⟩,.int .i64 N,.int .i64 a],.int .i64 k,.bool (bV N)]) (by simp [results,Tryz.results109,go_sem]) rfl ⟨⟨_,_,_,_,_,_,rfl,HF.out⟩,by first|exact (Below.refl _ _).alloc (Nat.le_refl _) _|exact ((Below.refl _ _).alloc (Nat.le_refl _) _).setCell (Nat.le_refl _) _⟩
        ·have q2:decide ((f:Int) > (a:Int))=false:=decide_eq_false (by omega);have HF:=ae (kY.out (bG s j f 0) (if_neg h4) k rfl);have HC:=fun (w:World)=>ae (uV (bG s j f 0) w);generalize bG s j f 0=V at *;clear hvb kY;go_wp2_with fail;refine (HC _).out.mono ?_;rintro e u ⟨rfl,rfl⟩;go_wp2;refine bodyPost_ret (v:=.tuple #[.agg #[.int .i64 4,.string ⟨#[]⟩,.int .i64 V,.int .i64 a],.int .i64 k,.bool (bV V)]) (by simp [results,Tryz.results109,go_sem]) rfl ⟨⟨_,_,_,_,_,_,rfl,HF.out⟩,by first|exact (Below.refl _ _).alloc (Nat.le_refl _) _|exact ((Below.refl _ _).alloc (Nat.le_refl _) _).setCell (Nat.le_refl _) _⟩
  ·have q9:decide ((k:Int)<(s.size:Int))=false:=decide_eq_false (by omega);obtain rfl:k=R:=(hR.out.symm.trans (Bb s dg hp)).symm;clear hR;obtain ⟨L,hL⟩:∃L,k=f+L:=⟨k-f,by omega⟩;have fE:=ae hL;have wE:wrap64 ((k:Int)-(f:Int))=(L:Int):=by unfold wrap64;omega
   rw [show k-f=L by omega] at kC lH;by_cases z0:k=f
   ·have q0:((k:Int) == (f:Int))=true:=beq_iff_eq.2 (by omega);have HF:=ae (fun K T N A E=>kC.out (.inl z0) (K:=K) (T:=T) (N:=N) (A:=A) (E:=E));clear z0 hL kC lH HA;go_wp2;refine bodyPost_ret (v:=.tuple #[.agg #[.int .i64 0,.string ⟨#[]⟩,.int .i64 0,.int .i64 0],.int .i64 0,.bool false]) (by simp [results,Tryz.results109,go_sem]) rfl ⟨⟨_,_,_,_,_,_,rfl,HF.out _ _ _ _ _⟩,by first|exact (Below.refl _ _).alloc (Nat.le_refl _) _|exact ((Below.refl _ _).alloc (Nat.le_refl _) _).setCell (Nat.le_refl _) _⟩
   ·have q0:((k:Int) == (f:Int))=false:=beq_eq_false_iff_ne.2 (by omega);have hx:=fun (w:World)=>jP s f (by omega) w (P:=Tryz.prog) 9 Tryz.underlying9;by_cases z1:1<L
    ·have q1:decide ((L:Int) > 1)=true:=decide_eq_true (by omega);have Aa:decide ((k:Int)-(f:Int) > 1)=true:=decide_eq_true (by omega);by_cases z2:bt s f=48
     ·have q2:(bt s f == 48)=true:=beq_iff_eq.2 z2;have HF:=ae (fun K T N A E=>kC.out (.inr (.inl ⟨z1,z2⟩)) (K:=K) (T:=T) (N:=N) (A:=A) (E:=E));generalize bt s f=c0 at *;clear z0 z1 z2 hL kC lH HA;go_wp2;refine bodyPost_ret (v:=.tuple #[.agg #[.int .i64 0,.string ⟨#[]⟩,.int .i64 0,.int .i64 0],.int .i64 0,.bool false]) (by simp [results,Tryz.results109,go_sem]) rfl ⟨⟨_,_,_,_,_,_,rfl,HF.out _ _ _ _ _⟩,by first|exact (Below.refl _ _).alloc (Nat.le_refl _) _|exact ((Below.refl _ _).alloc (Nat.le_refl _) _).setCell (Nat.le_refl _) _⟩
     ·have q2:(bt s f == 48)=false:=beq_eq_false_iff_ne.2 z2;by_cases z3:10<L
      ·have q3:decide ((L:Int) > 10)=true:=decide_eq_true (by omega);have Ab:decide ((k:Int)-(f:Int) > 10)=true:=decide_eq_true (by omega);have HF:=ae (fun K T N A E=>kC.out (.inr (.inr z3)) (K:=K) (T:=T) (N:=N) (A:=A) (E:=E));generalize bt s f=c0 at *;clear z0 z1 z2 z3 hL kC lH HA;go_wp2;refine bodyPost_ret (v:=.tuple #[.agg #[.int .i64 0,.string ⟨#[]⟩,.int .i64 0,.int .i64 0],.int .i64 0,.bool false]) (by simp [results,Tryz.results109,go_sem]) rfl ⟨⟨_,_,_,_,_,_,rfl,HF.out _ _ _ _ _⟩,by first|exact (Below.refl _ _).alloc (Nat.le_refl _) _|exact ((Below.refl _ _).alloc (Nat.le_refl _) _).setCell (Nat.le_refl _) _⟩
      ·have q3:decide ((L:Int) > 10)=false:=decide_eq_false (by omega);have Ab:decide ((k:Int)-(f:Int) > 10)=false:=decide_eq_false (by omega);have kY:=ae (fun V hV E hE=>lH.out (by rintro (h|h|h);exact z0 h;exact z2 h.2;exact z3 h) (V:=V) hV (E:=E) hE)
       have su:Hid (L<=10):=ae (by omega);generalize bt s f=c0 at *;clear z0 z1 z2 z3 hL kC lH;go_wp2_with fail
       go_loop [10,11] (fun x y=>∃j p:Nat,x=.int .i64 (bG s j f 0)/\y=.int .i64 p/\j<=L/\Hid (p=f+j)) (fun _ y=>match y with | .int _ z=>k-z.toNat|_=>0)
       case atStart=>exact ⟨0,f,rfl,rfl,Nat.zero_le _,ae rfl⟩
       case round =>
        obtain ⟨j,p,rfl,rfl,hj,df⟩:=hrel
        try clear wE hx q0 q1 q2 Aa Eu q3 Ab
        by_cases hjl:j<L
        ·have xB:p<k:=by have:=fE.out;have:=df.out;omega
         have q1:decide ((p:Int)<(k:Int))=true:=decide_eq_true (by have:=fE.out;have:=df.out;omega);have hx:=fun (w:World)=>jP s p (by have:=fE.out;have:=HL.out;have:=df.out;omega) w (P:=Tryz.prog) 9 Tryz.underlying9;have hw1:wrap64 ((p:Int)+1)=((p+1:Nat):Int):=by have:=fE.out;have:=HL.out;have:=df.out;unfold wrap64;omega
         have hd:=iK (HA.out p (by have:=df.out;omega) (by have:=fE.out;have:=df.out;omega));have hvb:=xL s f j (by have:=su.out;omega) fun i h1 h2=>HA.out i h1 (by have:=fE.out;omega);have hs:=ym s j f 0;rw [<- df.out] at hs;generalize bG s j f 0=V at *;generalize bt s p=c at *;have hw2:wrap64 (V*10)=V*10:=by unfold wrap64;omega
         have hw3:IntKind.u8.wrap (c-48)=c-48:=by rw [IntKind.wrap_u8];omega
         have Mo:(c-48)%256=c-48:=by omega
         have hw4:wrap64 (V*10+(c-48))=bG s (j+1) f 0:=by rw [hs];unfold wrap64;omega
         obtain ⟨V',hV'⟩:∃V',V'=bG s (j+1) f 0:=⟨_,rfl⟩;rw [<- hV'] at hw4;have eX:=ae hV';clear hV';clear hd hvb hs;go_wp2
         go_round
         case rel=>exact ⟨j+1,p+1,by rw [<- eX.out];first|rfl|(rw [hw4]),by first|rfl|(congr 1),by omega,ae (by have:=df.out;omega)⟩
         case measure=>have:=fE.out;have:=df.out;simp;omega
        ·obtain rfl:j=L:=by omega
         have xB:¬ p<k:=by have:=fE.out;have:=df.out;omega
         have q1:decide ((p:Int)<(k:Int))=false:=decide_eq_false (by have:=fE.out;have:=df.out;omega);have hvb:=xL s f j su.out fun i h1 h2=>HA.out i h1 (by have:=fE.out;omega);by_cases h4:a<f
         ·have q2:decide ((f:Int) > (a:Int))=true:=decide_eq_true (by omega);have HF:=ae (kY.out (-bG s j f 0) (if_pos h4) k rfl);obtain ⟨N,hN⟩:∃N,N=-bG s j f 0:=⟨_,rfl⟩;rw [<- hN] at HF;have hwn:wrap64 (-bG s j f 0)=N:=by rw [hN];unfold wrap64;omega
          have HC:=fun (w:World)=>ae (uV N w);clear hvb kY hN;generalize bG s j f 0=V at *;go_wp2_with fail;refine (HC _).out.mono ?_;rintro e u ⟨rfl,rfl⟩;go_wp2;refine bodyPost_ret (v:=.tuple #[.agg #[.int .i64 4,.string ⟨#[]⟩,.int .i64 N,.int .i64 a],.int .i64 k,.bool (bV N)]) (by simp [results,Tryz.results109,go_sem]) rfl ⟨⟨_,_,_,_,_,_,rfl,HF.out⟩,by first|exact (Below.refl _ _).alloc (Nat.le_refl _) _|exact ((Below.refl _ _).alloc (Nat.le_refl _) _).setCell (Nat.le_refl _) _⟩
         ·have q2:decide ((f:Int) > (a:Int))=false:=decide_eq_false (by omega);have HF:=ae (kY.out (bG s j f 0) (if_neg h4) k rfl);have HC:=fun (w:World)=>ae (uV (bG s j f 0) w);generalize bG s j f 0=V at *;clear hvb kY;go_wp2_with fail;refine (HC _).out.mono ?_;rintro e u ⟨rfl,rfl⟩;go_wp2;refine bodyPost_ret (v:=.tuple #[.agg #[.int .i64 4,.string ⟨#[]⟩,.int .i64 V,.int .i64 a],.int .i64 k,.bool (bV V)]) (by simp [results,Tryz.results109,go_sem]) rfl ⟨⟨_,_,_,_,_,_,rfl,HF.out⟩,by first|exact (Below.refl _ _).alloc (Nat.le_refl _) _|exact ((Below.refl _ _).alloc (Nat.le_refl _) _).setCell (Nat.le_refl _) _⟩
    ·have q1:decide ((L:Int) > 1)=false:=decide_eq_false (by omega);have Aa:decide ((k:Int)-(f:Int) > 1)=false:=decide_eq_false (by omega);have q2:decide ((L:Int) > 10)=false:=decide_eq_false (by omega);have Eu:decide ((k:Int)-(f:Int) > 10)=false:=decide_eq_false (by omega);have kY:=ae (fun V hV E hE=>lH.out (by rintro (h|h|h);exact z0 h;exact z1 h.1;omega) (V:=V) hV (E:=E) hE)
     have su:Hid (L<=10):=ae (by omega);clear z0 z1 hL kC lH;go_wp2_with fail
     go_loop [10,11] (fun x y=>∃j p:Nat,x=.int .i64 (bG s j f 0)/\y=.int .i64 p/\j<=L/\Hid (p=f+j)) (fun _ y=>match y with | .int _ z=>k-z.toNat|_=>0)
     case atStart=>exact ⟨0,f,rfl,rfl,Nat.zero_le _,ae rfl⟩
     case round =>
      obtain ⟨j,p,rfl,rfl,hj,df⟩:=hrel
      try clear wE hx q0 q1 q2 Aa Eu q3 Ab
      by_cases hjl:j<L
      ·have xB:p<k:=by have:=fE.out;have:=df.out;omega
       have q1:decide ((p:Int)<(k:Int))=true:=decide_eq_true (by have:=fE.out;have:=df.out;omega);have hx:=fun (w:World)=>jP s p (by have:=fE.out;have:=HL.out;have:=df.out;omega) w (P:=Tryz.prog) 9 Tryz.underlying9;have hw1:wrap64 ((p:Int)+1)=((p+1:Nat):Int):=by have:=fE.out;have:=HL.out;have:=df.out;unfold wrap64;omega
       have hd:=iK (HA.out p (by have:=df.out;omega) (by have:=fE.out;have:=df.out;omega));have hvb:=xL s f j (by have:=su.out;omega) fun i h1 h2=>HA.out i h1 (by have:=fE.out;omega);have hs:=ym s j f 0;rw [<- df.out] at hs;generalize bG s j f 0=V at *;generalize bt s p=c at *;have hw2:wrap64 (V*10)=V*10:=by unfold wrap64;omega
       have hw3:IntKind.u8.wrap (c-48)=c-48:=by rw [IntKind.wrap_u8];omega
       have Mo:(c-48)%256=c-48:=by omega
       have hw4:wrap64 (V*10+(c-48))=bG s (j+1) f 0:=by rw [hs];unfold wrap64;omega
       obtain ⟨V',hV'⟩:∃V',V'=bG s (j+1) f 0:=⟨_,rfl⟩;rw [<- hV'] at hw4;have eX:=ae hV';clear hV';clear hd hvb hs;go_wp2
       go_round
       case rel=>exact ⟨j+1,p+1,by rw [<- eX.out];first|rfl|(rw [hw4]),by first|rfl|(congr 1),by omega,ae (by have:=df.out;omega)⟩
       case measure=>have:=fE.out;have:=df.out;simp;omega
      ·obtain rfl:j=L:=by omega
       have xB:¬ p<k:=by have:=fE.out;have:=df.out;omega
       have q1:decide ((p:Int)<(k:Int))=false:=decide_eq_false (by have:=fE.out;have:=df.out;omega);have hvb:=xL s f j su.out fun i h1 h2=>HA.out i h1 (by have:=fE.out;omega);by_cases h4:a<f
       ·have q2:decide ((f:Int) > (a:Int))=true:=decide_eq_true (by omega);have HF:=ae (kY.out (-bG s j f 0) (if_pos h4) k rfl);obtain ⟨N,hN⟩:∃N,N=-bG s j f 0:=⟨_,rfl⟩;rw [<- hN] at HF;have hwn:wrap64 (-bG s j f 0)=N:=by rw [hN];unfold wrap64;omega
        have HC:=fun (w:World)=>ae (uV N w);clear hvb kY hN;generalize bG s j f 0=V at *;go_wp2_with fail;refine (HC _).out.mono ?_;rintro e u ⟨rfl,rfl⟩;go_wp2;refine bodyPost_ret (v:=.tuple #[.agg #[.int .i64 4,.string ⟨#[]⟩,.int .i64 N,.int .i64 a],.int .i64 k,.bool (bV N)]) (by simp [results,Tryz.results109,go_sem]) rfl ⟨⟨_,_,_,_,_,_,rfl,HF.out⟩,by first|exact (Below.refl _ _).alloc (Nat.le_refl _) _|exact ((Below.refl _ _).alloc (Nat.le_refl _) _).setCell (Nat.le_refl _) _⟩
       ·have q2:decide ((f:Int) > (a:Int))=false:=decide_eq_false (by omega);have HF:=ae (kY.out (bG s j f 0) (if_neg h4) k rfl);have HC:=fun (w:World)=>ae (uV (bG s j f 0) w);generalize bG s j f 0=V at *;clear hvb kY;go_wp2_with fail;refine (HC _).out.mono ?_;rintro e u ⟨rfl,rfl⟩;go_wp2;refine bodyPost_ret (v:=.tuple #[.agg #[.int .i64 4,.string ⟨#[]⟩,.int .i64 V,.int .i64 a],.int .i64 k,.bool (bV V)]) (by simp [results,Tryz.results109,go_sem]) rfl ⟨⟨_,_,_,_,_,_,rfl,HF.out⟩,by first|exact (Below.refl _ _).alloc (Nat.le_refl _) _|exact ((Below.refl _ _).alloc (Nat.le_refl _) _).setCell (Nat.le_refl _) _⟩
namespace Lx
theorem Du (g:Nat) (t:TypeId):∀(vs:List Value) (o:Nat) (w:World) (cur:Array Value),w.heap[g]?=some (.cells cur t (0,0))->o+vs.length<=cur.size ->
  (w.setCells g o vs).heap[g]?=some (.cells (cur.toList.take o++vs++cur.toList.drop (o+vs.length)).toArray t (0,0))
 | [],o,w,cur,h,_=>by simpa [World.setCells] using h
 | v :: r,o,w,cur,h,hl=>by
  simp only [List.length_cons] at hl;have h1:=Du g t r (o+1) (w.setCell ⟨g,o,none⟩ v) (cur.setIfInBounds o v) (heap_setCell_same w g o cur t v h) (by rw [Array.size_setIfInBounds];omega);rw [World.setCells,h1,Array.toList_setIfInBounds];have hs:o<cur.toList.length:=by rw [Array.length_toList];omega
  have e1:(cur.toList.set o v).take (o+1)=cur.toList.take o++[v]:=by
   rw [List.take_add_one,List.take_set_of_le (Nat.le_refl o),List.getElem?_set_self hs];rfl
  have e2:(cur.toList.set o v).drop (o+1+r.length)=cur.toList.drop (o+1+r.length):=List.drop_set_of_lt (by omega);rw [e1,e2];simp only [List.length_cons,List.append_assoc,List.cons_append,List.nil_append];rw [show o+1+r.length=o+(r.length+1) by omega]
theorem mY (B g:Nat) (hg:B<=g):∀(vs:List Value) (o:Nat) (w u:World),Below B w u->Below B w (u.setCells g o vs)
 | [],_,w,u,h=>h
 | v :: r,o,w,u,h=>mY B g hg r (o+1) w _ (h.setCell hg _)
theorem adB {w:World} {b:Nat} {t:TypeId} {cs vs:Array Value} (h:w.heap[b]?=some (.cells cs t (0,0))) (hc:cs.size=4) (hv:vs.size=4):(w.setCells b 0 vs.toList).heap[b]?=some (.cells vs t (0,0)):=by
 rw [Du b t vs.toList 0 w cs h (by simp;omega)];have hd:List.drop 4 cs.toList = []:=List.drop_eq_nil_of_le (by simp [hc]);simp [hv,hd]
theorem adC {w:World} {b:Nat} {t:TypeId} {cs:Array Value} (h:w.heap[b]?=some (.cells cs t (0,0))) (hc:cs.size=4):w.there b 0 4:=fun j hj=>by
 refine ⟨?_,?_⟩
 ·unfold World.cell?;rw [h,Nat.zero_add];show (cs[j]?).isSome=true;rw [Array.getElem?_eq_getElem (by omega)];rfl
 ·unfold World.frozen?;rw [h];simp
theorem di:(Tryz.prog.info? 47).map (·.size)=some 4:=by kernel_rfl
def wA (w:World):World:=w.alloc (.cells #[.int .i64 0,.string ⟨#[]⟩,.int .i64 0,.int .i64 0] 47)
theorem lX (w:World):(wA w).heap.size=w.heap.size+1:=by unfold wA;simp
theorem adD (w:World):(wA w).heap[w.heap.size]?=some (.cells #[.int .i64 0,.string ⟨#[]⟩,.int .i64 0,.int .i64 0] 47 (0,0)):=heap_alloc_new w _
theorem sV (w:World):Below w.heap.size w (wA w):=(Below.refl _ w).alloc (Nat.le_refl _) _
structure An (w u:World):Prop where
 blk:u.heap[w.heap.size]?=some (.cells #[.int .i64 0,.string ⟨#[]⟩,.int .i64 0,.int .i64 0] 47 (0,0))
 eD:Below w.heap.size w u
theorem An.start (w:World):An w (wA w):=⟨adD w,sV w⟩
theorem An.on {w u u':World} (h:An w u) (hb:Below u.heap.size u u'):An w u' :=
 ⟨by rw [hb.block _ (Array.getElem?_eq_some_iff.1 h.blk).1];exact h.blk,az h.eD hb⟩
theorem An.put {w u:World} (h:An w u) (a0 a1 a2 a3:Value):∃W2,u.setCells w.heap.size 0 (#[a0,a1,a2,a3]:Array Value).toList=W2/\u.there w.heap.size 0 4/\W2.cell? ⟨w.heap.size,0,none⟩=some a0/\W2.cell? ⟨w.heap.size,1,none⟩=some a1
  /\ W2.cell? ⟨w.heap.size,2,none⟩=some a2/\W2.cell? ⟨w.heap.size,3,none⟩=some a3/\Below w.heap.size w W2:=by
 have hh:=adB h.blk rfl (vs:=#[a0,a1,a2,a3]) rfl;refine ⟨_,rfl,adC h.blk rfl,?_,?_,?_,?_,mY _ _ (Nat.le_refl _) _ 0 w u h.eD⟩
 all_goals (unfold World.cell?;rw [hh];rfl)
end Lx
end Go.Proofs.YtkdbgopgjbfhbaaGreatDoor
