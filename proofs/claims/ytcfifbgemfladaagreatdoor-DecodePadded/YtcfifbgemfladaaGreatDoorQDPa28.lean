/- Texts that the claim needs. -/
import Derived.Test.YtcfifbgemfladaaGreatDoorQDPa27
import Derived.Test.YtcfifbgemfladaaGreatDoorQDPa1
import Derived.Test.YtcfifbgemfladaaGreatDoorQDPa9
import Derived.Test.YtcfifbgemfladaaGreatDoorQDPa2
import Derived.Test.YtcfifbgemfladaaGreatDoorQDPa3
import Derived.Test.YtcfifbgemfladaaGreatDoorQDPa6
import Derived.Test.YtcfifbgemfladaaGreatDoorQDPa8
import Derived.Laws.Strings
namespace Go.Proofs.YtcfifbgemfladaaGreatDoor
open Go.RowKit au Enc aI Go.Lib
set_option linter.unusedVariables false
namespace aI
theorem abR {s:AH} {i:Nat} {n:Int} (h0:0<=n) (h1:n<=4294967295) (h:Ls s i (af.uB n)) (hi:i+(af.uB n).length<=s.size):af.ig s (i:Int) 32=(n,(i:Int)+(af.uB n).length,0):=by
 have hL:af.iE (af.from_ s i) 0 (af.uB n):=af.Jk λj hj=>h j hj
 have h5:(af.uB n).length<=5:=by
  have e:(128:Int) ^ 5=34359738368:=by decide
  exact af.Gi 4 n h0 (by show n<128 ^ 5;rw [e];omega)
 have hp:=af.Dv n;have hg:=af.NG (af.from_ s i) (s.size-i) n.toNat n 0 5 h0 (aC _) hL (by omega);rw [AE h5,Nat.zero_add] at hg;have hv:=af.NH (af.from_ s i) n.toNat n 0 h0 (aC _) hL;rw [Nat.zero_add] at hv;have hv':af.val (af.from_ s i) (af.uB n).length=n:=by rw [hv];simp [af.val]
 have fQ:af.asks s.size i 32=true:=ay ⟨.inl rfl,by omega,by omega⟩;unfold af.ig;rw [AE fQ,Int.toNat_natCast];show af.mK _ (af.fO _ _ 5 0) _ 32=_;rw [hg];unfold af.mK;rw [hv',AD];rintro (h|⟨_,h⟩|⟨h,_⟩)<;>omega
theorem KI (B:Nat->List Int) (a n:Nat):∀k,eZ B a (n+k)=eZ B a n++eZ B (a+n) k
 | 0=>by show eZ B a n=eZ B a n++[];rw [List.append_nil]
 | k+1=>by
  show eZ B a (n+k)++B (a+(n+k)+1)=eZ B a n++(eZ B (a+n) k++B (a+n+k+1));rw [KI B a n k,bw,Nat.add_assoc a n k]
def pos (m:Mod 81) (j:Nat):Nat:=8+(eZ (ll m) 0 j).length
theorem XY (m:Mod 81):pos m 0=8:=rfl
theorem Hf (m:Mod 81) (j:Nat):pos m (j+1)=pos m j+(ll m (j+1)).length:=by
 unfold pos;show 8+(eZ (ll m) 0 j++ll m (0+j+1)).length=_;rw [aT,Nat.zero_add];omega
theorem BW (m:Mod 81) {j k:Nat} (h:j<=k):pos m j<=pos m k:=by
 obtain ⟨d,rfl⟩:=Nat.le.dest h
 induction d with
 | zero=>exact aC _
 | succ d ih=>have:=ih (by omega);rw [<- Nat.add_assoc,Hf];omega
structure tJ (m:Mod 81) (s:AH):Prop where
 hd:Ls s 0 pR
 ls:Ls s 8 (eZ (ll m) 0 11)
 len:pos m 11=s.size
 short:s.size<=20000
theorem tJ.at_ {m:Mod 81} {s:AH} (h:tJ m s) {j:Nat} (hj:j<=10):Ls s (pos m j) (ll m (j+1)):=by
 have e:eZ (ll m) 0 11=eZ (ll m) 0 j++(ll m (j+1)++eZ (ll m) (j+1) (10-j)):=by
  have h1:=KI (ll m) 0 j (11-j);rw [show j+(11-j)=11 by omega] at h1;have h2:=KI (ll m) (0+j) 1 (10-j);rw [show 1+(10-j)=11-j by omega] at h2;rw [h1,h2,Nat.zero_add];rfl
 have:=h.ls
 rw [e] at this;exact this.right.left
theorem tJ.pay {m:Mod 81} {s:AH} (h:tJ m s) {j:Nat} (hj:j<=10) (hn:nI m (j+1)≠0) :
  (gp m (j+1)).length<=20000/\af.bt s (pos m j)=((j+1:Nat):Int)/\af.ig s ((pos m j:Int)+1) 32=(((gp m (j+1)).length:Int),((pos m j+1+(af.uB ((gp m (j+1)).length:Int)).length:Nat):Int),0) /\
  Ls s (pos m j+1+(af.uB ((gp m (j+1)).length:Int)).length) (gp m (j+1))/\pos m (j+1)=pos m j+1+(af.uB ((gp m (j+1)).length:Int)).length+(gp m (j+1)).length:=by
 have hat:=h.at_ hj;have hps:=Hf m j;have hle:=BW m (j:=j+1) (k:=11) (by omega);have hlen:=h.len;have hsh:=h.short;have he:ll m (j+1) = [((j+1:Nat):Int)]++af.uB ((gp m (j+1)).length:Int)++gp m (j+1):=by unfold ll qF;rw [AD hn]
 rw [he] at hat hps;simp only [aT,List.length_singleton] at hps;have hb:=hat.left.right;have hc:=hat.right;simp only [aT,List.length_singleton] at hb hc;have hpl:(gp m (j+1)).length<=20000:=by omega
 have hu:=abR (s:=s) (i:=pos m j+1) (n:=((gp m (j+1)).length:Int)) (by omega) (by omega) hb (by omega);refine ⟨hpl,hat.left.left.head,?_,by rw [Nat.add_assoc];exact hc,by omega⟩;rw [show ((pos m j:Int)+1)=((pos m j+1:Nat):Int) by omega,hu];congr 2
theorem tJ.next {m:Mod 81} {s:AH} (h:tJ m s):∀(d j:Nat),j+d=11->pos m j<s.size->∃k,j<=k/\k<=10/\nI m (k+1)≠0/\pos m k=pos m j/\∀i,j<=i->i<k->nI m (i+1)=0
 | 0,j,hj,hp=>by
  have:j=11:=by omega
  subst this;rw [h.len] at hp;omega
 | d+1,j,hj,hp=>by
  by_cases hn:nI m (j+1)=0
  ·have he:pos m (j+1)=pos m j:=by
    rw [Hf]
    have:ll m (j+1) = []:=by unfold ll qF;rw [AE hn]
    rw [this];rfl
   obtain ⟨k,k1,k2,k3,k4,k5⟩:=tJ.next h d (j+1) (by omega) (by rw [he];exact hp);refine ⟨k,by omega,k2,k3,by rw [k4,he],λi h1 h2=>?_⟩;by_cases hi:i=j
   ·rw [hi];exact hn
   exact k5 i (by omega) h2
  exact ⟨j,aC _,by omega,hn,rfl,λi h1 h2=>by omega⟩
theorem Qi (m:Mod 81) (L:Nat->List Int) {j k:Nat} (h:j<=k) (hz:∀i,j<=i->i<k->nI m (i+1)=0):eZ (λk=>qF m k (L k)) 0 k=eZ (λk=>qF m k (L k)) 0 j:=by
 obtain ⟨d,rfl⟩:=Nat.le.dest h
 induction d with
 | zero=>rfl
 | succ d ih =>
  show eZ _ 0 (j+d)++qF m (0+(j+d)+1) (L (0+(j+d)+1))=_;have hn:=hz (j+d) (by omega) (by omega);rw [ih (by omega) (λi h1 h2=>hz i h1 (by omega)),Nat.zero_add];unfold qF;rw [AE hn,List.append_nil]
def jY (m:Mod 81) (j:Nat):List Int:=pR++eZ (ou m) 0 j
theorem XP (m:Mod 81) {j k:Nat} (h:j<=k) (hz:∀i,j<=i->i<k->nI m (i+1)=0) (hn:nI m (k+1)≠0):jY m (k+1)=jY m j++([((k+1:Nat):Int)]++qH (gp m (k+1)).length++gp m (k+1)):=by
 have e:=Qi m (λk=>qH (gp m k).length) h hz;unfold jY;show pR++(eZ (ou m) 0 k++ou m (0+k+1))=_;rw [Nat.zero_add,show eZ (ou m) 0 k=eZ (ou m) 0 j from e,bw];congr 2;unfold ou qF;rw [AD hn]
theorem X4 {m:Mod 81} {s:AH} (h:tJ m s) {j:Nat} (hj:j<=11) (hp:¬ pos m j<s.size):jY m 11=jY m j:=by
 have hall:∀i,j<=i->i<11->nI m (i+1)=0:=λi h1 h2=>by
  by_cases hn:nI m (i+1)=0
  ·exact hn
  exfalso
  have:=h.pay (j:=i) (by omega) hn
  have m1:=BW m h1;have m2:=BW m (j:=i+1) (k:=11) (by omega)
  have:=h.len
  omega
 have e:=Qi m (λk=>qH (gp m k).length) hj hall;unfold jY;rw [show eZ (ou m) 0 11=eZ (ou m) 0 j from e]
theorem X5 {m:Mod 81} (o:Hg m) {s t:AH} (h:tJ m s) (ht:Ls t 0 (jY m 11)) (hl:(jY m 11).length=t.size) (hz:t.size<=262144):zD t=.ok (stA m 11,t.size):=by
 unfold jY at ht hl;rw [aT,show pR.length=8 from rfl] at hl;refine abS (B:=ou m) (λk h1 h2=>?_) hz ht.left (by have:=ht.right;rwa [show 0+pR.length=8 from rfl] at this) hl;by_cases hn:nI m k=0
 ·unfold ou qF;rw [AE hn]
  have:=step_ok o (L:=af.uB ((gp m k).length:Int)) h1 h2
  intro s i last a1 a2 a3 a4 a5;exact ⟨last,0,a2,by omega,aC _,λf=>by rw [Qj h1 h2 hn];rfl⟩
 obtain ⟨j,rfl⟩:∃j,k=j+1:=⟨k-1,by omega⟩;exact step_ok o h1 h2 (abT (by have:=(h.pay (j:=j) (by omega) hn).1;omega))
end aI
end Go.Proofs.YtcfifbgemfladaaGreatDoor
namespace Go.Proofs.YtcfifbgemfladaaGreatDoor
open Go.RowKit au Enc aI Go.Lib Go.Proofs.Tryz
set_option linter.unusedVariables false
set_option maxRecDepth 100000
set_option maxHeartbeats 2000000
namespace aI
theorem Uh (w:AG) (a b c d e:Int):(w.alloc (.cells #[.int .u8 a,.int .u8 b,.int .u8 c,.int .u8 d,.int .u8 e] 5)).ownsRow w.heap.size 5 1 (.slice (some ⟨w.heap.size,0,none⟩) 5 5) 5 ([a,b,c,d,e].map (Value.int .u8)) :=
 ⟨rfl,.inr ⟨_,5,_,rfl,aC _,mV _ _ rfl,aC _,by unfold maxLen;omega,rfl,rfl⟩⟩
theorem FN (x:Int) (h:0<=x):bits .or .u8 (x%256) 128=x%128+128:=by rw [af.C8 _ (by omega) (by omega)];omega
end aI
theorem Ui (n:Nat) (w:AG) (hn:n<=262144):Calls prog 15 #[.int .i64 n] w λe w'=>e=.returned (.string (strOfNums (qH n)))/\AS w w':=by
 have o0:=FN (n:Int) (by omega);have o1:=FN ((n:Int) / 128) (by omega);have o2:=FN ((n:Int) / 16384) (by omega);have o3:=FN ((n:Int) / 2097152) (by omega);have p2:=af.C8 ((n:Int) / 16384) (by omega) (by omega);have p3:=af.C8 ((n:Int) / 2097152) (by omega) (by omega);have o4:(n:Int) / 268435456%256=(n:Int) / 268435456:=by omega
 have HO:=aa (Uh w ((n:Int)%128+128) ((n:Int) / 128%128+128) ((n:Int) / 16384%128+128) ((n:Int) / 2097152%128+128) ((n:Int) / 268435456));have HB:Hid (AS w (w.alloc (.cells #[.int .u8 ((n:Int)%128+128),.int .u8 ((n:Int) / 128%128+128),.int .u8 ((n:Int) / 16384%128+128),.int .u8 ((n:Int) / 2097152%128+128),.int .u8 ((n:Int) / 268435456)] 5))):=aa (aQ _ _)
 have hcv:(convert 68 9 (.slice (some ⟨w.heap.size,0,none⟩) 5 5)).run prog (w.alloc (.cells #[.int .u8 ((n:Int)%128+128),.int .u8 ((n:Int) / 128%128+128),.int .u8 ((n:Int) / 16384%128+128),.int .u8 ((n:Int) / 2097152%128+128),.int .u8 ((n:Int) / 268435456)] 5))=.ok (.string (strOfNums (qH n))) (w.alloc (.cells #[.int .u8 ((n:Int)%128+128),.int .u8 ((n:Int) / 128%128+128),.int .u8 ((n:Int) / 16384%128+128),.int .u8 ((n:Int) / 2097152%128+128),.int .u8 ((n:Int) / 268435456)] 5)):=by
  obtain ⟨g,cap,h1,h2⟩:=FO HO.out (by omega);injection h1 with h1 h3 h4;injection h1 with h1;injection h1 with h1;subst h1 h4;exact h2
 go_enter func15,ntmps15;go_wp2;go_ret;exact ⟨rfl,HB.out⟩
end Go.Proofs.YtcfifbgemfladaaGreatDoor
namespace Go.Proofs.YtcfifbgemfladaaGreatDoor
open Go.RowKit au Go.Proofs.Tryz
set_option linter.unusedVariables false
set_option maxHeartbeats 1000000
namespace au
theorem Ny {α:Type} (w:AG) (f:Value->α->Prop) (t:TypeId) (b:Nat) (x:Ins α) (v4 v5 v6:Value) (hb:b=w.heap.size)
  (h4:Ints (w.alloc (.cells #[.int .i64 x.op,.int .i64 x.a,.int .i64 x.b,.int .i64 x.n,v4,v5,v6] t)) v4 x.labels) (h5:f v5 x.body) (h6:f v6 x.els) :
  fM (w.alloc (.cells #[.int .i64 x.op,.int .i64 x.a,.int .i64 x.b,.int .i64 x.n,v4,v5,v6] t)) f b 0 x:=by
 have hc:∀(i:Nat) (v:Value),#[Value.int .i64 x.op,.int .i64 x.a,.int .i64 x.b,.int .i64 x.n,v4,v5,v6][i]?=some v->(w.alloc (.cells #[.int .i64 x.op,.int .i64 x.a,.int .i64 x.b,.int .i64 x.n,v4,v5,v6] t)).cell? ⟨b,i,none⟩=some v:=λi v h=>by
  rw [World.cell?_alloc_at _ t _ _ hb];exact h
 exact ⟨hc _ _ rfl,hc _ _ rfl,hc _ _ rfl,hc _ _ rfl,⟨_,hc _ _ rfl,h4⟩,⟨_,hc _ _ rfl,h5⟩,⟨_,hc _ _ rfl,h6⟩⟩
theorem Nz {α:Type} (k:Nat) (f:Nat->Nat->α->Prop) (b cap:Nat) (x:α) (h:f b 0 x):Row k f (.slice (some ⟨b,0,none⟩) 1 cap) [x] :=
 ⟨by simp,.inr ⟨b,0,cap,rfl,λi y hi=>by
  match i,hi with
  | 0,hi=>simp at hi;subst hi;simpa using h
  | i+1,hi=>simp at hi⟩⟩
end au
theorem Xm (d:Nat) (x y:Ins (IL d)) (o4 o5 o6 p4 p5 p6:Option Addr) (n4 n5 n6 m4 m5 m6 c4 c5 c6 e4 e5 e6:Nat) (w:AG) (b1 b2:Nat) (h1:b1=w.heap.size) (h2:b2=w.heap.size+1)
  (a4:Ints w (.slice o4 n4 c4) x.labels) (a5:At w d (.slice o5 n5 c5) x.body) (a6:At w d (.slice o6 n6 c6) x.els) (b4:Ints w (.slice p4 m4 e4) y.labels) (b5:At w d (.slice p5 m5 e5) y.body) (b6:At w d (.slice p6 m6 e6) y.els) :
  Calls prog 27 #[.slice (some ⟨b1,0,none⟩) 1 1,.slice (some ⟨b2,0,none⟩) 1 1] ((w.alloc (.cells #[.int .i64 x.op,.int .i64 x.a,.int .i64 x.b,.int .i64 x.n,.slice o4 n4 c4,.slice o5 n5 c5,.slice o6 n6 c6] 59)).alloc (.cells #[.int .i64 y.op,.int .i64 y.a,.int .i64 y.b,.int .i64 y.n,.slice p4 m4 e4,.slice p5 m5 e5,.slice p6 m6 e6] 59)) λe w'=>e=.returned (.bool (qI (mD d) x y))/\AS w w':=by
 have hb1:=aQ w (.cells #[.int .i64 x.op,.int .i64 x.a,.int .i64 x.b,.int .i64 x.n,.slice o4 n4 c4,.slice o5 n5 c5,.slice o6 n6 c6] 59);have i1:=Ny w (At (w.alloc (.cells #[.int .i64 x.op,.int .i64 x.a,.int .i64 x.b,.int .i64 x.n,.slice o4 n4 c4,.slice o5 n5 c5,.slice o6 n6 c6] 59)) d) 59 b1 x _ _ _ h1 (a4.on hb1) (At.on hb1 _ _ _ a5) (At.on hb1 _ _ _ a6);have b4:=b4.on hb1;have b5:=At.on hb1 _ _ _ b5;have b6:=At.on hb1 _ _ _ b6;have hs:(w.alloc (.cells #[.int .i64 x.op,.int .i64 x.a,.int .i64 x.b,.int .i64 x.n,.slice o4 n4 c4,.slice o5 n5 c5,.slice o6 n6 c6] 59)).heap.size=w.heap.size+1:=by simp
 generalize w.alloc (.cells #[.int .i64 x.op,.int .i64 x.a,.int .i64 x.b,.int .i64 x.n,.slice o4 n4 c4,.slice o5 n5 c5,.slice o6 n6 c6] 59)=w1 at *;have hb2:=aQ w1 (.cells #[.int .i64 y.op,.int .i64 y.a,.int .i64 y.b,.int .i64 y.n,.slice p4 m4 e4,.slice p5 m5 e5,.slice p6 m6 e6] 59);have i2:=Ny w1 (At (w1.alloc (.cells #[.int .i64 y.op,.int .i64 y.a,.int .i64 y.b,.int .i64 y.n,.slice p4 m4 e4,.slice p5 m5 e5,.slice p6 m6 e6] 59)) d) 59 b2 y _ _ _ (by rw [h2,hs]) (b4.on hb2) (At.on hb2 _ _ _ b5) (At.on hb2 _ _ _ b6);have i1:=i1.on hb2 (At.on hb2 d)
 have hE:mD (d+1) ([x]:List (Ins (IL d))) ([y]:List (Ins (IL d)))=qI (mD d) x y:=by
  show (qI (mD d) x y&&true)=_;rw [Bool.and_true]
 rw [<- hE];exact (Jh (d+1) (.slice (some ⟨b1,0,none⟩) 1 1) (.slice (some ⟨b2,0,none⟩) 1 1) ([x]:List (Ins (IL d))) ([y]:List (Ins (IL d))) _ (Nz _ _ _ _ _ i1) (Nz _ _ _ _ _ i2)).mono λe w' ⟨h1,h2⟩=>⟨h1,dM (dM hb1 hb2) h2⟩
theorem Ji (d:Nat) (x y:Ins (IL d)) (o4 o5 o6 p4 p5 p6:Option Addr) (n4 n5 n6 m4 m5 m6 c4 c5 c6 e4 e5 e6:Nat) (w:AG)
  (a4:Ints w (.slice o4 n4 c4) x.labels) (a5:At w d (.slice o5 n5 c5) x.body) (a6:At w d (.slice o6 n6 c6) x.els) (b4:Ints w (.slice p4 m4 e4) y.labels) (b5:At w d (.slice p5 m5 e5) y.body) (b6:At w d (.slice p6 m6 e6) y.els) :
  Calls prog 28 #[.agg #[.int .i64 x.op,.int .i64 x.a,.int .i64 x.b,.int .i64 x.n,.slice o4 n4 c4,.slice o5 n5 c5,.slice o6 n6 c6],.agg #[.int .i64 y.op,.int .i64 y.a,.int .i64 y.b,.int .i64 y.n,.slice p4 m4 e4,.slice p5 m5 e5,.slice p6 m6 e6]] w λe w'=>e=.returned (.bool (qI (mD d) x y))/\AS w w':=by
 have HC:=aa (λ(w':AG) (hb:AS w w') (b1 b2:Nat) (h1:b1=w'.heap.size) (h2:b2=w'.heap.size+1)=>Xm d x y o4 o5 o6 p4 p5 p6 n4 n5 n6 m4 m5 m6 c4 c5 c6 e4 e5 e6 w' b1 b2 h1 h2 (a4.on hb) (At.on hb _ _ _ a5) (At.on hb _ _ _ a6) (b4.on hb) (At.on hb _ _ _ b5) (At.on hb _ _ _ b6));have HB:=aa (dM (aQ w (.cells #[.int .i64 x.op,.int .i64 x.a,.int .i64 x.b,.int .i64 x.n,.slice o4 n4 c4,.slice o5 n5 c5,.slice o6 n6 c6] 59)) (aQ (w.alloc (.cells #[.int .i64 x.op,.int .i64 x.a,.int .i64 x.b,.int .i64 x.n,.slice o4 n4 c4,.slice o5 n5 c5,.slice o6 n6 c6] 59)) (.cells #[.int .i64 y.op,.int .i64 y.a,.int .i64 y.b,.int .i64 y.n,.slice p4 m4 e4,.slice p5 m5 e5,.slice p6 m6 e6] 59)));obtain ⟨R,hR⟩:∃R,R=qI (mD d) x y:=⟨_,rfl⟩;rw [<- hR] at HC ⊢;clear hR a4 a5 a6 b4 b5 b6;go_enter func28,ntmps28;go_wp2_with fail;refine (HC.out _ HB.out _ _ (by simp) (by simp)).mono ?_;rintro e u ⟨rfl,hb⟩;have HB2:=aa (dM HB.out hb);clear hb;go_wp2;go_ret;exact ⟨rfl,HB2.out⟩
end Go.Proofs.YtcfifbgemfladaaGreatDoor
namespace Go.Proofs.YtcfifbgemfladaaGreatDoor
open Go.RowKit au
set_option linter.unusedVariables false
namespace ai
def J8 (ops:Array Oper) (n:Nat):Bool:=decide (ops.size=n)&&(List.range ops.size).all (λi=>(pz ops i).all (λj=>decide (j<i)))
def DR (ops:Array Oper) (n:Nat) (dst:Nat->Nat) (size:Nat):Bool :=
 (List.range n).all λi=>match ops[i]? with
  | some o=>o.dst==some (dst i)&&decide (dst i<size)
  | none=>false
theorem J9 {ops:Array Oper} {n:Nat} {dst:Nat->Nat} {size:Nat} (h:DR ops n dst size=true):∀i,i<n->∃o,ops[i]?=some o/\o.dst=some (dst i)/\dst i<size:=λi hi=>by
 unfold DR at h
 have:=(dN.1 h) i (List.mem_range.2 hi)
 cases ho:ops[i]? with
 | none=>rw [ho] at this;cases this
 | some o =>
  rw [ho] at this;simp only [bH,beq_iff_eq,decide_eq_true_eq] at this;exact ⟨o,rfl,this.1,this.2⟩
theorem ZR {a:Act} {k:Nat} {b:Bool} (h:a.eval (.tmp k)=.bool b):a.tmps[k]?=some (.bool b):=by
 have h':=aB h;cases hk:a.tmps[k]? with
 | none=>rw [hk] at h';exact absurd h' (by simp [undef])
 | some v=>rw [hk] at h';exact congrArg some h'
theorem wants {ops:Array Oper} {o oj:Oper} {a:Act} {j k:Nat} {b want:Bool} (hg:o.guard=some (j,want)) (hj:ops[j]?=some oj) (hd:oj.dst=some k) (h:a.eval (.tmp k)=.bool b):Region.wanted o (yielded ops a.tmps)=(b==want):=by
 have hy:yielded ops a.tmps j=some b:=by
  unfold yielded;rw [hj]
  have:((some oj).bind (·.dst)).bind (a.tmps[·]?)=some (.bool b):=by
   show (oj.dst).bind (a.tmps[·]?)=_;rw [hd];exact ZR h
  rw [this]
 unfold Region.wanted;rw [hg];show (yielded ops a.tmps j==some want)=_;rw [hy];cases b<;>cases want<;>rfl
section
variable {P:Program} {ops:Array Oper} {Q:Exit->Act->AG->Prop} {id:Nat} {a0:Act} {w0:AG}
def Does (P:Program) (ops:Array Oper) (Q:Exit->Act->AG->Prop) (p:Value->AG->Prop) (o:Oper) (a:Act) (w:AG):Prop :=
 (Region.wanted o (yielded ops a.tmps)=true/\o.wp P a w (λa' w'=>∃v,a'=a.put o.dst v/\AS w w'/\p v w') Q)\/(Region.wanted o (yielded ops a.tmps)=false/\p undef w)
theorem Does.go {p:Value->AG->Prop} {o:Oper} {a:Act} {w:AG} (hg:o.guard=none) (h:o.wp P a w (λa' w'=>∃v,a'=a.put o.dst v/\AS w w'/\p v w') Q):Does P ops Q p o a w:=.inl ⟨by simp [Region.wanted,hg],h⟩
theorem Does.wanted {p:Value->AG->Prop} {o oj:Oper} {a:Act} {w:AG} {j k:Nat} {b:Bool} (hg:o.guard=some (j,b)) (hj:ops[j]?=some oj) (hd:oj.dst=some k) (hb:a.eval (.tmp k)=.bool b) (h:o.wp P a w (λa' w'=>∃v,a'=a.put o.dst v/\AS w w'/\p v w') Q):Does P ops Q p o a w :=
 .inl ⟨by rw [wants hg hj hd hb];cases b<;>rfl,h⟩
theorem Does.skip {p:Value->AG->Prop} {o oj:Oper} {a:Act} {w:AG} {j k:Nat} {b:Bool} (hg:o.guard=some (j,b)) (hj:ops[j]?=some oj) (hd:oj.dst=some k) (hb:a.eval (.tmp k)=.bool (!b)) (h:p undef w):Does P ops Q p o a w :=
 .inr ⟨by rw [wants hg hj hd hb];cases b<;>rfl,h⟩
theorem Does.op {p:Value->AG->Prop} {o:Oper} {a:Act} {w:AG} {K:Act->AG->Prop} (h:Does P ops Q p o a w) (hK:∀v w',AS w w'->p v w'->K (a.put o.dst v) w') :
  if Region.wanted o (yielded ops a.tmps) then o.wp P a w K Q\/(o.asks P a w/\LetsOut Q) else K (a.put o.dst undef) w:=by
 rcases h with ⟨hw,h⟩|⟨hw,h⟩
 ·rw [AE hw];exact .inl (Oper.wp_mono (λa' w' ⟨v,ha,hb,hp⟩=>by subst ha;exact hK v w' hb hp) h)
 rw [AD (by rw [hw];simp)];exact hK undef w (AC _ _) h
theorem ZT (n:Nat) (dst:Nat->Nat) (G:Nat->Value->AG->Prop) (hm:P.follows .mixedOrders=true) (hT:J8 ops n=true)
  (hinj:∀i j,i<n->j<n->dst i=dst j->i=j)
  (hdst:∀i,i<n->∃o,ops[i]?=some o/\o.dst=some (dst i)/\dst i<a0.tmps.size)
  (tQ:∀i v w w',i<n->G i v w->AS w w'->G i v w')
  (hstep:∀i o a w,i<n->ops[i]?=some o->Fr a0 dst n a->AS w0 w->(∀j ∈ deps o,G j (a.eval (.tmp (dst j))) w)->Does P ops Q (G i) o a w)
  (hend:∀a w,Fr a0 dst n a->AS w0 w->(∀i,i<n->G i (a.eval (.tmp (dst i))) w)->Q .normal a w) :
  (Code.region id ops true).wp P Q a0 w0:=by
 unfold J8 at hT;rw [bH,decide_eq_true_eq,dN] at hT;obtain ⟨hn,hT⟩:=hT;have hlow:∀i,i<ops.size->∀j ∈ pz ops i,j<i:=λi hi j hj=>of_decide_eq_true ((dN.1 (hT i (List.mem_range.2 hi))) j hj);refine Ka (λL a w=>L.size=ops.size/\Fr a0 dst n a/\AS w0 w/\∀i,i<n->L.getD i false=true->G i (a.eval (.tmp (dst i))) w) hm ?_ ?_ ?_
 ·rintro L i a w hi ⟨hsz,hF,hB,hG⟩;obtain ⟨vS,o,ho,hd⟩:=Kb hi;obtain ⟨qX,vT⟩:=Kc vS;have hin:i<n:=by omega
  obtain ⟨o',ho',vU,hos⟩:=hdst i hin
  have:o'=o:=by rw [ho] at ho';exact (Option.some.inj ho').symm
  subst this;have hs:=hstep i o' a w hin ho hF hB (λj hj=>hG j (by have:=hlow i (by omega) j (by rw [Bj ho];exact hj);omega) (hd j hj));unfold wpOp;rw [ho];refine hs.op λv w' hBw Bl=>?_;have Bm:dst i<a.tmps.size:=by rw [hF.size];exact hos
  refine ⟨by rw [Array.size_setIfInBounds,hsz],by rw [vU];exact hF.put hin v,hB.trans (hBw.mono hB.size),λj hj tT=>?_⟩;rw [vU];by_cases he:j=i
  ·subst he;rw [GM v Bm];exact Bl
  rw [tV L i _ qX,AD he] at tT;rw [GN v (λe=>he (hinj i j hin hj e).symm)];exact tQ j _ w w' hj (hG j hj tT) hBw
 ·rintro L a w hr ⟨hsz,hF,hB,hG⟩;refine hend a w hF hB λi hi=>hG i hi ?_
  have key:∀k,k<ops.size->L.getD k false=true:=by
   intro k
   induction k using Nat.strongRecOn with
   | _ k ih =>
    intro hk;cases hL:L.getD k false with
    | true=>rfl
    | false =>
     obtain ⟨o,ho⟩:∃o,ops[k]?=some o:=⟨_,wU hk⟩
     have hm:k ∈ Region.ready .any ops L:=by
      refine Ps ho ?_ λj hj=>?_
      ·have:k<L.size:=by omega
       simp only [Array.getD,this] at hL ⊢;exact hL
      have hj':j ∈ pz ops k:=by rw [Bj ho];exact hj
      have:=hlow k hk j hj'
      exact ih j this (by omega)
     rw [hr] at hm;cases hm
  exact key i (by omega)
 have hf:∀k,(Array.replicate ops.size false).getD k false=false:=λk=>by
  simp [Array.getD]
 refine ⟨by simp,⟨rfl,rfl,λ_ _=>rfl⟩,⟨rfl,rfl,rfl,aC _,λ_ _=>rfl⟩,λi _ hL=>?_⟩;rw [hf] at hL;cases hL
theorem Pt (n:Nat) (dst:Nat->Nat) (G:Nat->Value->AG->Prop) (hn:n<=ops.size)
  (hinj:∀i j,i<n->j<n->dst i=dst j->i=j)
  (hdst:∀i,i<n->∃o,ops[i]?=some o/\o.dst=some (dst i)/\dst i<a0.tmps.size)
  (tQ:∀i v w w',i<n->G i v w->AS w w'->G i v w')
  (hstep:∀i o a w,i<n->ops[i]?=some o->Fr a0 dst n a->AS w0 w->(∀j ∈ List.range i,G j (a.eval (.tmp (dst j))) w)->Does P ops Q (G i) o a w)
  (cO:∀a w,Fr a0 dst n a->AS w0 w->(∀i,i<n->G i (a.eval (.tmp (dst i))) w)->wpList P ops Q (ops.toList.drop n) a w) :
  (Code.region id ops false).wp P Q a0 w0:=by
 have key:∀r k,k+r=n->∀a w,Fr a0 dst n a->AS w0 w->(∀j,j<k->G j (a.eval (.tmp (dst j))) w)->wpList P ops Q (ops.toList.drop k) a w:=by
  intro r
  induction r with
  | zero =>
   intro k hk a w hF hB hG;obtain rfl:k=n:=by omega
   exact cO a w hF hB hG
  | succ r ih =>
   intro k hk a w hF hB hG;have hkn:k<n:=by omega
   obtain ⟨o,ho,vU,hos⟩:=hdst k hkn;have hks:k<ops.size:=by omega
   have DT:ops.toList.drop k=o :: ops.toList.drop (k+1):=by
    rw [nN (by simpa using hks)];congr 1
    have:=wU hks
    rw [ho] at this;simpa using (Option.some.inj this).symm
   rw [DT];unfold wpList;refine (hstep k o a w hkn ho hF hB λj hj=>hG j (List.mem_range.1 hj)).op λv w' hBw Bl=>?_;have Bm:dst k<a.tmps.size:=by rw [hF.size];exact hos
   refine ih (k+1) (by omega) _ w' (by rw [vU];exact hF.put hkn v) (hB.trans (hBw.mono hB.size)) λj hj=>?_;rw [vU];by_cases he:j=k
   ·subst he;rw [GM v Bm];exact Bl
   rw [GN v (λe=>he (hinj k j hkn (by omega) e).symm)];exact tQ j _ w w' (by omega) (hG j (by omega)) hBw
 refine wp_region_list ?_
 have:=key n 0 (by omega) a0 w0 ⟨rfl,rfl,λ_ _=>rfl⟩ (AC _ _) (λj hj=>absurd hj (by omega))
 rwa [gP] at this
end
end ai
namespace au
def fT (x y:FT):Bool:=decide (x.params=y.params)&&decide (x.results=y.results)
def fL (x y:gu):Bool:=(x.min==y.min)&&((x.max==y.max)&&(x.has==y.has))
def fE {d:Nat} (x y:lX d):Bool:=qI (mD d) x.offset y.offset&&decide (x.funcs=y.funcs)
def fD {d:Nat} (x y:Dat d):Bool:=(x.bytes.toList==y.bytes.toList)&&qI (mD d) x.offset y.offset
end au
end Go.Proofs.YtcfifbgemfladaaGreatDoor
namespace Go.Proofs.YtcfifbgemfladaaGreatDoor
open Go.RowKit au Enc Go.Lib
set_option linter.unusedVariables false
namespace Enc
def rF (d:Nat) (x:Ins (IL d)):List Int:=fS (aW d) (size d) x++[11]
def mq (x:gu):Prop:=0<=x.min/\0<=x.max/\(x.has=false->x.max=0)
def Le:List (Int × Nat × List Int)->List Int
 | []=>[]
 | x :: r=>eu x.1 x.2.1 x.2.2++Le r
def secs {d : Nat} (m : Mod d) : List (Int × Nat × List Int) :=
  [(1, m.types.length, aG kI m.types), (2, m.imports.length, aG kJ m.imports), (3, m.funcs.length, aG (λx => af.uB x.type) m.funcs), (4, m.tables.length, aG (λx => [112] ++ eT x) m.tables),
   (5, m.aF.length, aG eT m.aF), (6, m.globals.length, aG jV m.globals), (7, m.exports.length, aG kN m.exports), (8, m.start.length, m.start.flatMap af.uB), (9, m.elems.length, aG jy m.elems),
   (10, m.funcs.length, aG (λx => df (cQ x)) m.funcs), (11, m.aA.length, aG jA m.aA)]
theorem BV {d:Nat} (m:Mod d):mR m=Bp++Le (secs m):=by
 unfold mR secs Bp;simp only [Le,bw,List.append_nil]
theorem Qk {α β:Type} (e:β->List Int) (g:α->β) (l:List α):aG (λx=>e (g x)) l=aG e (l.map g):=by
 unfold aG;rw [jS,List.flatMap_map]
structure WM {d:Nat} (m:Mod d):Prop where
 types:∀x ∈ m.types,(∀y ∈ x.params,yZ y)/\∀y ∈ x.results,yZ y
 imports:∀x ∈ m.imports,0<=x.type
 TQ:∀x ∈ m.funcs,0<=x.type
 locals:∀x ∈ m.funcs,∀y ∈ x.locals,yZ y
 bodies:∀x ∈ m.funcs,VI d x.body
 tables:∀x ∈ m.tables,mq x
 aF:∀x ∈ m.aF,mq x
 globals:∀x ∈ m.globals,yZ x.type/\ui x.init=true
 exports:∀x ∈ m.exports,yZ x.kind/\0<=x.index
 start:∀x ∈ m.start,0<=x
 elems:∀x ∈ m.elems,ui x.offset=true/\∀y ∈ x.funcs,0<=y
 aA:∀x ∈ m.aA,ui x.offset=true
 once:m.start.length<=1
theorem RP {d:Nat}:∀(l:List (fF d)),pU sZ d l ()=some ()->∀x ∈ l,lj sZ d x.body 0 ()=some ()
 | [],_,x,hx=>by cases hx
 | y :: r,h,x,hx=>by
  have h':((lj sZ d y.body 0 ()).bind λs1=>pU sZ d r s1)=some ():=h;obtain ⟨s1,e1,h1⟩:=Option.bind_eq_some_iff.1 h';rcases lI.1 hx with rfl|hx
  ·exact e1
  exact RP r h1 x hx
theorem NW {d:Nat} {m:Mod d} (h:ny m=0):WM m:=by
 obtain ⟨h0,_,_,h3,h4⟩:=KO h;unfold zC at h3;simp only [bH,dN] at h3;obtain ⟨t1,t2,t3,t4,t5,t6,t7,t8,t9⟩:=h3;unfold qW at h0;simp only [bH] at h0
 have hs:m.start.length<=1:=by
  have h1:Gz (len m.start)=true:=h0.2.2.1;have h2:len m.start<=1:=of_decide_eq_true h1;have h3:((m.start.length:Nat):Int)<=1:=h2;omega
 have lim:∀x:gu,cu x=true->mq x:=λx hx=>by
  unfold cu at hx;simp only [bH,Bool.or_eq_true,beq_iff_eq] at hx;refine ⟨(iH hx.1.1).1,(iH hx.1.2.1).1,λe=>?_⟩;rcases hx.2 with h|h
  ·rw [e] at h;cases h
  exact h
 refine ⟨λx hx=>?_,λx hx=>?_,λx hx=>?_,λx hx=>?_,λx hx=>IC d _ 0 (RP _ h4 x hx),λx hx=>lim x (t4 x (List.mem_append.2 (.inl hx))),λx hx=>lim x (t4 x (List.mem_append.2 (.inr hx))),λx hx=>?_,λx hx=>?_,λx hx=>(iH (t7 x hx)).1,λx hx=>?_,λx hx=>t9 x hx,hs⟩
 ·have:=t1 x hx
  unfold G9 at this;simp only [bH,dN] at this;exact ⟨λy hy=>FQ (this.1 y hy),λy hy=>FQ (this.2 y hy)⟩
 ·have:=t2 x hx
  unfold D7 at this;simp only [bH] at this;exact (iH this.2.1).1
 ·have:=t3 x hx
  unfold Bq at this;simp only [bH] at this;exact (iH this.1.1).1
 ·have:=t3 x hx
  unfold Bq at this;simp only [bH,dN] at this;exact λy hy=>FQ (this.2 y hy)
 ·have:=t5 x hx
  unfold D8 at this;simp only [bH] at this;exact ⟨FQ this.1.1,this.2⟩
 ·have:=t6 x hx
  unfold D9 at this;simp only [bH,decide_eq_true_eq] at this;exact ⟨by unfold yZ;omega,(iH this.2.2.1).1⟩
 have:=t8 x hx
 exact ⟨this.1,λy hy=>(iH (this.2 y hy)).1⟩
end Enc
namespace Enc
def Bd (l:List Int):Prop:=∀x ∈ l,0<=x/\x<=255
theorem yX:Bd []:=λx hx=>by cases hx
theorem sO {n:Int} (h:0<=n/\n<=255):Bd [n]:=λx hx=>by rw [List.mem_singleton.1 hx];exact h
theorem zX (n:Int):Bd [n%256]:=sO (by omega)
theorem ed {a b:List Int} (ha:Bd a) (hb:Bd b):Bd (a++b):=λx hx=>by
 rcases List.mem_append.1 hx with h|h
 ·exact ha x h
 exact hb x h
theorem FA {α:Type} {e:α->List Int} {l:List α} (h:∀x ∈ l,Bd (e x)):Bd (l.flatMap e):=λx hx=>by
 obtain ⟨y,hy,hx⟩:=List.mem_flatMap.1 hx;exact h y hy x hx
theorem oD {n:Int} (h:0<=n):Bd (af.uB n):=CN _ n h (aC _)
theorem TM (n:Int):Bd (af.sB n):=CO _ n (aC _)
theorem rE {α:Type} {e:α->List Int} {l:List α} (h:∀x ∈ l,Bd (e x)):Bd (aG e l):=ed (oD (by omega)) (FA h)
theorem Md {b:List Int} (h:Bd b):Bd (df b):=ed (oD (by omega)) h
theorem TN (s:AH):Bd (nums s):=λx hx=>by
 obtain ⟨y,_,rfl⟩:=List.mem_map.1 hx
 have:=y.toNat_lt
 exact ⟨by omega,by omega⟩
theorem FC (s:AH):Bd (jH s):=ed (oD (by omega)) (TN s)
theorem uS {id:Int} {n:Nat} {b:List Int} (hi:0<=id/\id<=255) (h:Bd b):Bd (eu id n b):=by
 unfold eu;split
 ·exact yX
 exact ed (sO hi) (Md h)
theorem Me {d:Nat} {x:Ins (IL d)} (o:Ib x) (h1:Bd (aW d x.body)) (h2:Bd (aW d x.els)):Bd (fS (aW d) (size d) x):=by
 refine ed (zX x.op) ?_;have z:Bd [0]:=sO (by omega);split
 ·split
  ·exact z
  exact yX
 split
 ·refine ed (ed (ed ?_ h1) ?_) (sO (by omega))
  ·split
   ·exact sO (by omega)
   exact zX _
  split
  ·exact ed (sO (by omega)) h2
  exact yX
 split
 ·exact oD (o.a4 (by omega) (by omega))
 split
 ·exact ed (rE λy hy=>oD (o.l5 (by omega) y hy)) (oD (o.a4 (by omega) (by omega)))
 split
 ·exact ed (oD (o.a4 (by omega) (by omega))) z
 split
 ·exact ed (oD (o.a4 (by omega) (by omega))) (oD (o.b8 (by omega)))
 split
 ·exact TM _
 exact yX
theorem Ic:∀(d:Nat) (l:IL d),VI d l->Bd (aW d l)
 | 0,_,_=>yX
 | d+1,l,h=>FA (l:=(show List (Ins (IL d)) from l)) λx hx=>Me (FD (h x hx).1) (Ic d _ (h x hx).2.1) (Ic d _ (h x hx).2.2)
theorem Ie {d:Nat} {x:Ins (IL d)} (h:ui x=true):Bd (rF d x):=by
 have h:(rG x.op&&nO (sn x))=true:=h;rw [bH] at h;have o:=FD h.2
 have hf:form x.op=9\/form x.op=6:=by
  have hz:=h.1;unfold rG at hz;simp only [Bool.or_eq_true,beq_iff_eq] at hz;rcases hz with (h|h)|h<;>rw [h]<;>decide
 refine ed (Me o ?_ ?_) (sO (by omega))
 ·rw [Mf d _ (o.body (by omega) (by omega))];exact yX
 rw [Mf d _ (o.els (by omega))];exact yX
theorem Mg {x:gu} (h:mq x):Bd (eT x):=by
 unfold eT;refine ed (ed (sO ?_) (oD h.1)) ?_
 ·unfold one;split<;>omega
 split
 ·exact oD h.2.1
 exact yX
theorem TP (b:Bool):Bd [one b]:=sO (by unfold one;split<;>omega)
theorem Mh {d:Nat} {m:Mod d} (h:WM m):Bd (mR m):=by
 have z:Bd [0]:=sO (by omega);unfold mR;refine ed (ed (ed (ed (ed (ed (ed (ed (ed (ed (ed ?_ (uS (by omega) ?_)) (uS (by omega) ?_)) (uS (by omega) ?_)) (uS (by omega) ?_)) (uS (by omega) ?_)) (uS (by omega) ?_)) (uS (by omega) ?_)) (uS (by omega) ?_)) (uS (by omega) ?_)) (uS (by omega) ?_)) (uS (by omega) ?_)
 ·unfold Bd;decide
 ·exact rE λx hx=>ed (ed (sO (by omega)) (rE λy hy=>zX y)) (rE λy hy=>zX y)
 ·exact rE λx hx=>ed (ed (ed (FC _) (FC _)) z) (oD (h.imports x hx))
 ·exact rE λx hx=>oD (h.TQ x hx)
 ·exact rE λx hx=>ed (sO (by omega)) (Mg (h.tables x hx))
 ·exact rE λx hx=>Mg (h.aF x hx)
 ·exact rE λx hx=>ed (ed (zX _) (TP _)) (Ie (h.globals x hx).2)
 ·exact rE λx hx=>ed (ed (FC _) (zX _)) (oD (h.exports x hx).2)
 ·exact FA λx hx=>oD (h.start x hx)
 ·exact rE λx hx=>ed (ed z (Ie (h.elems x hx).1)) (rE λy hy=>oD ((h.elems x hx).2 y hy))
 ·refine rE λx hx=>Md (ed ?_ (ed (Ic d _ (h.bodies x hx)) (sO (by omega))));exact ed (oD (by omega)) (FA λy hy=>ed (oD (by have:=((zY x.locals).2 y hy).1;omega)) (zX _))
 exact rE λx hx=>ed (ed z (Ie (h.aA x hx))) (FC _)
end Enc
namespace Enc
theorem GI {α β:Type} {c:Nat} {f:Nat->Nat->α->Prop} {g:Nat->Nat->β->Prop} {P:β->Prop} {Q:α->Prop} {v:Value} {l:List α} {k:List β} (hl:Row c f v l) (hk:Row c g v k) (h:∀b o x y,f b o x->g b o y->P y->Q x) (hP:∀y ∈ k,P y):∀x ∈ l,Q x:=by
 intro x hx;obtain ⟨i,hi,rfl⟩:=List.getElem_of_mem hx;obtain ⟨b,off,cap,hv,hc⟩:=Row.some hl (by omega);obtain ⟨o2,cap2,hv2⟩:=Row.len hk;rw [hv] at hv2;injection hv2 with _ hlen _;obtain ⟨b',off',cap',hv',hc'⟩:=Row.some hk (by omega);rw [hv] at hv';injection hv' with ha _ _;injection ha with ha;injection ha with hb ho _;subst hb ho;obtain ⟨y,hy⟩:∃y,k[i]?=some y:=⟨_,bG (by omega)⟩;exact h _ _ _ _ (hc i _ (bG hi)) (hc' i y hy) (hP y (iF hy))
theorem JR {w:AG} {d e:Nat} {b o:Nat} {x:Ins (IL d)} {y:Ins (IL e)} (hX:fM w (At w d) b o x) (hY:fM w (At w e) b o y) (hN:rM (NR e) y):rM (NR d) x:=by
 obtain ⟨n1,n2,n3⟩:=hN;obtain ⟨v5,c5,a5⟩:=hX.body;obtain ⟨v6,c6,a6⟩:=hX.els;obtain ⟨u5,d5,b5⟩:=hY.body;obtain ⟨u6,d6,b6⟩:=hY.els;have e5:v5=u5:=by rw [c5] at d5;exact Option.some.inj d5
 have e6:v6=u6:=by rw [c6] at d6;exact Option.some.inj d6
 have en:x.n=y.n:=by
  have h1:=hX.n;rw [hY.n] at h1;injection h1 with h1;injection h1 with _ h1;exact h1.symm
 exact ⟨by rw [en];exact n1,Dc d e v5 _ y.body a5 (e5 ▸ b5) n2,Dc d e v6 _ y.els a6 (e6 ▸ b6) n3⟩
theorem XS {w:AG} {d e:Nat} {v0 v1 v2 v3 v4 v5 v6 v7 v8 v9:Value} {m:Mod d} {k:Mod e} (hM:iG w d v0 v1 v2 v3 v4 v5 v6 v7 v8 v9 m) (hK:iG w e v0 v1 v2 v3 v4 v5 v6 v7 v8 v9 k) (hN:zl k):zl m:=by
 obtain ⟨N1,N2,N3,N4⟩:=hN;refine ⟨GI hM.funcs hK.funcs (λb o x y hx hy hn=>?_) N1,GI hM.globals hK.globals (λb o x y hx hy hn=>JR hx.init hy.init hn) N2,GI hM.elems hK.elems (λb o x y hx hy hn=>JR hx.offset hy.offset hn) N3,GI hM.aA hK.aA (λb o x y hx hy hn=>JR hx.offset hy.offset hn) N4⟩;obtain ⟨v,c,a⟩:=hx.body;obtain ⟨u,c',a'⟩:=hy.body;have e1:v=u:=by rw [c] at c';exact Option.some.inj c'
 exact Dc d e v _ y.body a (e1 ▸ a') hn
theorem XV {d:Nat} (m:Mod d):∃S E,BU m=.tuple #[.string S,.int .i64 E]:=by
 unfold BU;split
 ·exact ⟨_,_,Jq _⟩
 exact ⟨_,_,rfl⟩
end Enc
end Go.Proofs.YtcfifbgemfladaaGreatDoor
namespace Go.Proofs.YtcfifbgemfladaaGreatDoor
open Go.RowKit au Enc aI Go.Lib
set_option linter.unusedVariables false
namespace aI
theorem Jo (a b:List Int):strOfNums (a++b)=strOfNums a++strOfNums b:=by
 apply ByteArray.ext;rw [ByteArray.data_append];show ((a++b).map λn=>UInt8.ofNat n.toNat).toArray=(a.map λn=>UInt8.ofNat n.toNat).toArray++(b.map λn=>UInt8.ofNat n.toNat).toArray;rw [qw];simp
theorem AU {xs:List Int} (h:Bd xs):nums (strOfNums xs)=xs:=by
 unfold nums;show (xs.map λn=>UInt8.ofNat n.toNat).toArray.toList.map (λb=>(b.toNat:Int))=xs;rw [List.toList_toArray,List.map_map]
 conv=>rhs;rw [<- List.map_id xs]
 refine List.map_congr_left λx hx=>?_
 have:=h x hx
 show (((UInt8.ofNat x.toNat).toNat:Nat):Int)=x;rw [UInt8.toNat_ofNat'];omega
theorem Jp {s:AH} {i:Nat} {xs:List Int} (hb:Bd xs) (h:Ls s i xs) (hi:i+xs.length<=s.size):s.extract i (i+xs.length)=strOfNums xs:=by
 have hl:(strOfNums xs).size=xs.length:=strOfNums_size xs
 have:=NT (s:=s) (t:=strOfNums xs) (j:=i) (by rw [AU hb];exact h) (by omega)
 rwa [hl] at this
theorem NU {xs:List Int} (hb:Bd xs):Ls (strOfNums xs) 0 xs:=λj hj=>by
 have hs:j<(strOfNums xs).size:=by rw [strOfNums_size];exact hj
 have:=NV hs
 rw [AU hb] at this;rw [Nat.zero_add,this]
theorem XC {x:Mod 81} (hN:zl x) {S:AH} {E:Int} (h:BU x=.tuple #[.string S,.int .i64 E]) (hE:E=0) (hs:S.size<=20000):ny x=0/\tJ x S/\S=strOfNums (mR x):=by
 unfold BU at h;by_cases hc:ny x=0
 ·rw [AE hc,Jq] at h;simp only [Value.tuple.injEq,Array.mk.injEq,List.cons.injEq,Value.string.injEq,Value.int.injEq,true_and,and_true] at h;obtain ⟨rfl,rfl⟩:=h;have hlen:¬ 262144<(mR x).length:=λhl=>by unfold Jr at hE;rw [AE hl] at hE;cases hE
  have hS:Gj (mR x)=strOfNums (mR x):=by unfold Gj;rw [AD hlen]
  rw [hS] at hs ⊢;have hb:Bd (mR x):=Mh (NW hc);have hL:=NU hb;rw [BV] at hL;have hz:(strOfNums (mR x)).size=8+(eZ (ll x) 0 11).length:=by rw [strOfNums_size,BV,aT];rfl
  refine ⟨hc,⟨by rw [BV];exact hL.left,by rw [BV];have:=hL.right;rwa [show 0+pR.length=8 from rfl] at this,hz.symm,hs⟩,rfl⟩
 rw [AD hc] at h;simp only [Value.tuple.injEq,Array.mk.injEq,List.cons.injEq,Value.string.injEq,Value.int.injEq,true_and,and_true] at h;exact absurd (h.2.trans hE) hc
end aI
end Go.Proofs.YtcfifbgemfladaaGreatDoor
