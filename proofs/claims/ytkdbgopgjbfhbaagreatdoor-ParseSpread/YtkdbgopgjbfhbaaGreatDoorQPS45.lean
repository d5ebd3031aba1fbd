/- Texts that the claim needs. -/
import Derived.Test.YtkdbgopgjbfhbaaGreatDoorQPS44
import Derived.Test.YtkdbgopgjbfhbaaGreatDoorQPS37
import Derived.Test.YtkdbgopgjbfhbaaGreatDoorQPS39
import Derived.Test.YtkdbgopgjbfhbaaGreatDoorQPS36
import Derived.Test.YtkdbgopgjbfhbaaGreatDoorQPS14
import Derived.Lib.ConvBytes
import Derived.Laws.BytesArg
import Derived.Deep.CutRange
namespace Go.Proofs.YtkdbgopgjbfhbaaGreatDoor
open Go.RowKit Lx Pz bb
set_option linter.unusedVariables false
set_option maxRecDepth 100000
set_option maxHeartbeats 4000000
namespace Pz
theorem Jv {α:Type} {P:Nat->α->Prop} (hm:∀d x,P d x->P (d+1) x):∀l:List α,(∀x ∈ l,∃d,P d x)->∃d,∀x ∈ l,P d x
 | [],_=>⟨0,fun x hx=>by cases hx⟩
 | y :: l,h=>by
  have hle:∀ {d e:Nat} {x:α},d<=e->P d x->P e x:=fun {d e x} h hp=>by
   induction h with
   | refl=>exact hp
   | step _ ih=>exact hm _ _ ih
  obtain ⟨d,hd⟩:=h y (List.Mem.head _);obtain ⟨e,he⟩:=Jv hm l (fun x hx=>h x (List.Mem.tail _ hx));refine ⟨d+e,fun x hx=>?_⟩;rcases List.mem_cons.1 hx with rfl|hx
  ·exact hle (Nat.le_add_right _ _) hd
  ·exact hle (Nat.le_add_left _ _) (he x hx)
theorem PQ:∀(d:Nat) (l:List Value),mi d l->mi (d+1) l
 | 0,l,h=>fun x hx=>by have h':l = []:=h;rw [h'] at hx;cases hx
 | d+1,l,h=>fun x hx=>Fv d x (h x hx)
theorem YP {B d:Nat} {w:World} {v:Value} {ts:List Value} (h:Row 4 (eG B w d) v ts):mi d ts:=by
 cases d with
 | zero=>exact uC (h.imp fun _ _ _ _ hf=>hf)
 | succ d=>exact fun x hx=>by obtain ⟨b,o,hf⟩:=pg h hx;exact eG.fit d b o x hf
theorem YQ {B:Nat} {w:World} {v:Value} {ds:List Value} (h:mX B v ds w):∃dt,∀c ∈ ds,wB dt c:=by
 refine Jv (P:=wB) (fun d c hc x hx=>PQ d _ (hc x hx)) ds fun c hc=>?_;obtain ⟨b,o,hB,x,ps,cs,a,u,z,rfl,_,_,_,_,_,hcs⟩:=pg h hc;refine Jv (P:=Ju) (fun d c hc=>PQ d _ hc) cs fun k hk=>?_;obtain ⟨b',o',hB',x',ts,u',rfl,_,_,d,hr⟩:=pg hcs hk;exact ⟨d,YP hr⟩
theorem PT (s:ByteArray):∀(f k:Nat),Ints.Fw s f k≠0->∃j,Ints.C9.getD j ⟨#[]⟩=s
 | 0,k,h=>absurd rfl h
 | f+1,k,h=>by
  unfold Ints.Fw at h;split at h
  ·exact ⟨k,by assumption⟩
  ·exact PT s f (k+1) h
theorem YR (j:Nat):(Ints.C9.getD j ⟨#[]⟩).size<=33:=by
 rcases Nat.lt_or_ge j 8 with h|h
 ·have:j=0\/j=1\/j=2\/j=3\/j=4\/j=5\/j=6\/j=7:=by omega
  rcases this with rfl|rfl|rfl|rfl|rfl|rfl|rfl|rfl<;>decide
 ·rw [List.getD_eq_getElem?_getD,List.getElem?_eq_none (by simpa [Ints.C9] using h)];decide
theorem YS {k:Int} {x:ByteArray} {n:Int} (h:dJ k x n=true):x.size<=33:=by
 unfold dJ at h;split at h
 ·cases h
 ·split at h
  ·rw [Bool.and_eq_true] at h;have:=AX h.1;omega
  ·split at h
   ·have:=AX h;omega
   ·split at h
    ·have:=AX h;omega
    ·split at h
     ·rw [Bool.and_eq_true,decide_eq_true_eq] at h;omega
     ·split at h
      ·exact PW h
      ·split at h
       ·exact PX h
       ·cases h
theorem Da {k:Int} {x:ByteArray} (h:eO k x=true):x.size<=140737488355328:=by
 have h33:x.size<=33:=by
  unfold eO at h;split at h
  ·rw [of_decide_eq_true h];decide
  ·split at h
   ·obtain ⟨j,hj⟩:=PT x 7 1 (of_decide_eq_true h);rw [<- hj];exact YR j
   ·exact YS h
 omega
theorem YT {n:Int} (h:bV n=true):-9223372036854775808<=n/\n<=9223372036854775807:=by
 unfold bV at h;rw [Bool.and_eq_true,decide_eq_true_eq,decide_eq_true_eq] at h;omega
theorem Jw {nk:Int} {nm:Bool} {ar:Int} {x:ByteArray} {n:Int} {m:Nat} (h:AY nk nm ar x n m=true):x.size<=140737488355328/\-9223372036854775808<=n/\n<=9223372036854775807:=by
 unfold AY at h;rw [Bool.and_eq_true,Bool.and_eq_true,Bool.or_eq_true (decide (n=0)),Bool.and_eq_true] at h;refine ⟨Da h.1,?_⟩;rcases h.2.2 with h2|h2
 ·rw [of_decide_eq_true h2];omega
 ·exact YT h2.2
theorem PY:∀(m:Nat) (t:Value),yN m t=true->Db m t
 | 0,t,h=>trivial
 | m+1,t,h=>by
  unfold yN at h;rw [Bool.and_eq_true,List.all_eq_true] at h;have h1:=h.1;unfold uE at h1;rw [Bool.and_eq_true,Bool.and_eq_true] at h1;obtain ⟨q1,q2⟩:=Jw h1.2.2;exact ⟨q1,trivial,q2,fun x hx=>PY m x (h.2 x hx),trivial⟩
theorem PZ:∀(m:Nat) (t:Value),yO m t=true->Db m t
 | 0,t,h=>trivial
 | m+1,t,h=>by
  unfold yO at h;rw [Bool.and_eq_true,List.all_eq_true] at h;have h1:=h.1;unfold uF at h1;rw [Bool.and_eq_true] at h1;obtain ⟨q1,q2⟩:=Jw h1.2;exact ⟨q1,trivial,q2,fun x hx=>PZ m x (h.2 x hx),trivial⟩
theorem P6:∀(m:Nat) (t:Value),yP m t=true->Jy m t
 | 0,t,h=>trivial
 | m+1,t,h=>by
  unfold yP at h;rw [Bool.and_eq_true,Bool.and_eq_true,List.all_eq_true,List.all_eq_true] at h;have h1:=h.1;unfold mq at h1;rw [Bool.and_eq_true,Bool.and_eq_true,Bool.and_eq_true (AY _ _ _ _ _ _)] at h1;obtain ⟨q1,q2⟩:=Jw h1.2.2.1;exact ⟨q1,Da h1.2.2.2,q2,fun x hx=>P6 m x (h.2.1 x hx),fun x hx=>PZ m x (h.2.2 x hx)⟩
theorem YU {m:Nat} {c:Value} (h:Dc m c=true):P7 m c:=by
 unfold Dc at h;rw [Bool.and_eq_true,List.all_eq_true] at h;exact ⟨Da h.1,fun t ht=>PY m t (h.2 t ht)⟩
theorem YV {m:Nat} {d:Value} (h:De m d=true):P8 m d:=by
 unfold De at h;rw [Bool.and_eq_true,Bool.and_eq_true,Bool.and_eq_true,List.all_eq_true,List.all_eq_true] at h;exact ⟨Da h.1,fun p hp=>Da (h.2.1 p hp),fun c hc=>YU (h.2.2.2 c hc)⟩
theorem Says.all {s:ByteArray} {ds:List Value} {t:Value} (h:Says s (.ok (ds,t))):(∀d,fit d t->P9 d ds t=true/\1<=ij (d+1) 0 t/\ij (d+1) 0 t<=2048)/\(∀c ∈ ds,P8 256 c)/\Jy 256 t:=by
 obtain ⟨j,d,hp,hf,hm,hd⟩:=h.good;have hg:=YW (YX (Qa s) hp) hd;have hg':=hg;unfold Jz at hg';rw [Bool.and_eq_true,List.all_eq_true] at hg';refine ⟨fun e he=>?_,fun c hc=>YV (hg'.1 c hc),P6 256 t hg'.2⟩;have hme:kS e ds t=false:=by rw [Qb hf he,hm]
 refine ⟨?_,by have:=Qc (e+1) 0 t;omega,?_⟩
 ·unfold P9;rw [hme,hd];exact hg
 ·have h2:=hme;unfold kS at h2;rw [Bool.or_eq_false_iff,Bool.or_eq_false_iff,decide_eq_false_iff_not,decide_eq_false_iff_not] at h2;omega
end Pz
namespace Pz
theorem JX (d:Nat) (k:Int) (x y:ByteArray) (n a:Int):fit d (nd k x y n [] [] a):=JM (Nat.zero_le d) ⟨⟨_,_,_,_,_,_,_,rfl⟩,rfl,rfl⟩
theorem JY {d:Nat} {k:Int} {x y:ByteArray} {n:Int} {es ps:List Value} {a:Int} (h1:∀t ∈ es,fit d t) (h2:∀t ∈ ps,fit d t):fit (d+1) (nd k x y n es ps a):=⟨⟨_,_,_,_,_,_,_,rfl⟩,h1,h2⟩
def wF:ByteArray:=⟨#[102,117,110,32,120,32,45,62,32,120,32,43,32,40,49,32,42,32,121,41]⟩
def wG:ByteArray:=⟨#[102,117,110,32,120,32,45,62]⟩
def Zo:Value:=nd 9 ⟨#[43]⟩ e0 0 [nd 1 ⟨#[120]⟩ e0 0 [] [] 9,nd 9 ⟨#[42]⟩ e0 0 [nd 2 e0 e0 1 [] [] 14,nd 1 ⟨#[121]⟩ e0 0 [] [] 18] [] 14] [] 9
def zg:Value:=nd 3 ⟨#[120]⟩ e0 0 [Zo] [] 0
theorem Zp:fit 3 zg:=JY (mem1 (JY (mem2 (JX _ _ _ _ _ _) (JY (mem2 (JX _ _ _ _ _ _) (JX _ _ _ _ _ _)) il)) il)) il
theorem Zq {s:ByteArray} {ds:List Value} {t:Value} {j d:Nat} (h0:(lx s).2.2=0) (h:kz (lx s).1 s.size=.ok ((ds,t),j)) (hd:fit d t) (h1:kS d ds t=false) (h2:oo 256 ds t=false):Says s (.ok (ds,t)):=by
 unfold Says;rw [if_neg (by simpa using h0),h];exact ⟨d,hd,by unfold ni;rw [if_neg (by simp [h1]),if_neg (by simp [h2])]⟩
theorem Zr {s:ByteArray} {z:Int} (h0:(lx s).2.2=0) (h:kz (lx s).1 s.size=.error z):Says s (.error (z,120)):=by
 unfold Says;rw [if_neg (by simpa using h0),h]
def QD:List Tk:=[⟨5,⟨#[102,117,110]⟩,0,0⟩,⟨1,⟨#[120]⟩,0,4⟩,⟨6,⟨#[45,62]⟩,0,6⟩,⟨1,⟨#[120]⟩,0,9⟩,⟨6,⟨#[43]⟩,0,11⟩,⟨6,⟨#[40]⟩,0,13⟩,⟨4,⟨#[]⟩,1,14⟩,⟨6,⟨#[42]⟩,0,16⟩,⟨1,⟨#[121]⟩,0,18⟩,⟨6,⟨#[41]⟩,0,19⟩]
def QE:List Tk:=[⟨5,⟨#[102,117,110]⟩,0,0⟩,⟨1,⟨#[120]⟩,0,4⟩,⟨6,⟨#[45,62]⟩,0,6⟩]
theorem QF:lx wF=(QD,0,0):=by kernel_rfl
theorem QG:lx wG=(QE,0,0):=by kernel_rfl
theorem Zu:kz QD 20=.ok (([],zg),10):=by kernel_rfl
theorem Zv:kz QE 8=.error 8:=by kernel_rfl
theorem Zw:(wF.size:Int)=20:=by kernel_rfl
theorem Zx:(wG.size:Int)=8:=by kernel_rfl
theorem Zy:kS 3 [] zg=false:=by kernel_rfl
theorem Zz:oo 256 [] zg=false:=by kernel_rfl
theorem ZA:Says wF (.ok ([],zg)) :=
 have h0:(lx wF).2.2=0:=by rw [QF]
 have h1:kz (lx wF).1 wF.size=.ok (([],zg),10):=by rw [QF,Zw];exact Zu
 @Zq wF [] zg 10 3 h0 h1 Zp Zy Zz
theorem ZB:Says wG (.error (8,120)) :=
 have h0:(lx wG).2.2=0:=by rw [QG]
 have h1:kz (lx wG).1 wG.size=.error 8:=by rw [QG,Zx];exact Zv
 @Zr wG 8 h0 h1
end Pz
theorem FJ (w:World) (fV:WL w):Calls Tryz.prog 9 #[] w fun e w'=>e=.returned (.bool true)/\Below w.heap.size w w':=by
 have H1:=ae (FK wF w fV);have H2:=ae (fun (u:World) (hb:Below w.heap.size w u)=>FK wG u (fV.on hb));clear fV;go_enter Tryz.func9,Tryz.ntmps9;go_wp2_with fail;refine Calls.mono (show Calls _ _ _ _ _ from H1.out) ?_;rintro e u ⟨R,hS,hb,hR⟩;obtain rfl:=Says.one hS ZA;obtain ⟨v,rfl,hpr⟩:=hR;obtain ⟨u0,k0,x0,y0,n0,vu,vz,a0,rfl,hD,hM⟩:=hpr;obtain ⟨q1,q2⟩:=JZ hM;have q0:u0.oneCell'=true:=by obtain ⟨oD,cD,rfl,_⟩:=cF hD;rfl
 obtain ⟨d,k1,x1,y1,n1,es1,oq,a1,u1,z1,h0,h1,hrow,_⟩:=hM;obtain ⟨rfl,rfl,rfl,rfl,rfl,rfl,rfl⟩:=Dg h0;injection h1 with h1;simp only [Array.mk.injEq,List.cons.injEq,Value.int.injEq,Value.string.injEq,true_and,and_true] at h1;obtain ⟨rfl,rfl,rfl,rfl,rfl,rfl,rfl⟩:=h1;obtain ⟨g,off,cc,rfl,hel⟩:=Row.some hrow (by simp);have hC:=hel 0 _ rfl;rw [Nat.zero_mul,Nat.add_zero] at hC;obtain ⟨k2,x2,y2,n2,u2,z2,a2,e1,e2,e3,e4,e5,e6,e7,o1,o2,d3,hE⟩:=J0 hC;obtain ⟨k3,x3,y3,n3,es3,ps3,a3,u3,z3,h3,h4,_⟩:=hE;obtain ⟨rfl,rfl,rfl,rfl,rfl,rfl,rfl⟩:=Dg h3;injection h4 with h4;simp only [Array.mk.injEq,List.cons.injEq,Value.int.injEq,Value.string.injEq,true_and,and_true] at h4;obtain ⟨rfl,rfl,rfl,rfl,rfl,rfl,rfl⟩:=h4;obtain ⟨W,hW,hth,hbk,hbw⟩:=l4 u 29 dB #[u0,.int .i64 3,.string ⟨#[120]⟩,.string e0,.int .i64 0,.slice (some ⟨g,off,none⟩) 1 cc,vz,.int .i64 0] rfl;have HW:=ae hW;have ax:=ae hth;have aj:=ae hbk;have cf:=ae (az hb hbw);have sN:=ae (H2.out W cf.out);have iP:=ae (ah hbw e2);have QH:=ae (ah hbw e7);clear hW hth hbk hbw hb hS H1 H2 hD hrow hel hC e1 e2 e3 e4 e5 e6 e7 o1 o2 h0 h3;go_wp2_with (refine wpList_store_mid rfl 29 (.tmp 1) (.tmp 9) rfl u.heap.size 0 #[u0,.int .i64 3,.string ⟨#[120]⟩,.string e0,.int .i64 0,.slice (some ⟨g,off,none⟩) 1 cc,vz,.int .i64 0] rfl rfl ax.out qm (by simp [Value.oneCell'] at q0 q1 q2 ⊢;exact ⟨q0,q2⟩) ?_;rw [HW.out]);refine Calls.mono (show Calls _ _ _ _ _ from sN.out) ?_;rintro e w2 ⟨R2,iJ,hb2,jh⟩;obtain rfl:=Says.one iJ ZB;have ZC:e=.returned (.tuple #[.agg dB,.int .i64 8,.int .i64 120]):=jh;subst ZC;obtain ⟨W2,aC,wH,hbk2,QI⟩:=l4 w2 29 dB dB rfl;have HW2:=ae aC;have gb:=ae wH;have hbx:=az hb2 QI;have HB2:=ae (az cf.out hbx);have hx:=(hbx.block _ (Array.getElem?_eq_some_iff.1 aj.out).1).trans aj.out;have r1:=af hx 1 _ rfl;have r5:=af hx 5 _ rfl;have e2:=ah hbx iP.out;have e7:=ah hbx QH.out;clear aC wH hbk2 QI hb2 hbx hx aj iP QH sN iJ jh cf HW ax;go_wp2_with (refine wpList_store_mid rfl 29 (.tmp 4) (.tmp 14) rfl w2.heap.size 0 dB rfl rfl gb.out qm (by simp [Value.oneCell']) ?_;rw [HW2.out]);go_ret;exact ⟨rfl,HB2.out⟩
namespace Pz
theorem QN {B:Nat} {ds:List Value} {t v:Value} {w:World} (h:ny B (ds,t) v w):∃u k x y n vu vz a,v=.agg #[u,.int .i64 k,.string x,.string y,.int .i64 n,vu,vz,.int .i64 a]/\(u.oneCell'=true/\vu.oneCell'=true/\vz.oneCell'=true)/\ny B (ds,t) (.agg #[u,.int .i64 k,.string x,.string y,.int .i64 n,vu,vz,.int .i64 a]) w/\(∃dt,∀c ∈ ds,wB dt c)/\∃d,jH B d w t (.agg #[.int .i64 k,.string x,.string y,.int .i64 n,vu,vz,.int .i64 a]):=by
 have h':=h;obtain ⟨u,k,x,y,n,vu,vz,a,rfl,hD,hM⟩:=h;obtain ⟨q1,q2⟩:=JZ hM;have q0:u.oneCell'=true:=by obtain ⟨oD,cD,rfl,_⟩:=cF hD;rfl
 exact ⟨u,k,x,y,n,vu,vz,a,rfl,⟨q0,q1,q2⟩,h',YQ hD,hM⟩
end Pz
end Go.Proofs.YtkdbgopgjbfhbaaGreatDoor
namespace Go.Proofs.YtkdbgopgjbfhbaaGreatDoor
open Go.RowKit Lx
set_option linter.unusedVariables false
set_option maxRecDepth 100000
set_option maxHeartbeats 8000000
namespace Lx
theorem abW {s:ByteArray} {b:Bool} (h:s.size<1):wd s b=false:=by unfold wd;rw [decide_eq_false (by omega)];rfl
theorem abX {s:ByteArray} {b:Bool} (h:32<s.size):wd s b=false:=by unfold wd;rw [decide_eq_false (show ¬ s.size<=32 by omega)];simp
theorem SN {s:ByteArray} {b:Bool} (h:(if b=true then sm (bt s 0) else cp (bt s 0))=false):wd s b=false:=by unfold wd;rw [h];simp
theorem SQ {s:ByteArray} {b:Bool} (h1:1<=s.size) (h2:s.size<=32) (h:(if b=true then sm (bt s 0) else cp (bt s 0))=true):wd s b=decide (en s pt 1=s.size):=by unfold wd;rw [decide_eq_true h1,decide_eq_true h2,h];rfl
end Lx
theorem SR (s:ByteArray) (w:World) (b:Bool) (h:s.size<1\/32<s.size):Calls Tryz.prog 42 #[.string s,.bool b] w fun e w'=>e=.returned (.bool (wd s b))/\w'=w:=by
 rcases h with h|h
 ·have q1:decide ((s.size:Int)<1)=true:=decide_eq_true (by omega);rw [abW h];have hs:s=⟨#[]⟩:=by apply ByteArray.ext;exact Array.eq_empty_of_size_eq_zero (show s.size=0 by omega)
  subst hs;clear h;go_enter Tryz.func42,Tryz.ntmps42;go_wp2;go_ret;exact ⟨rfl,rfl⟩
 ·have q1:decide ((s.size:Int)<1)=false:=decide_eq_false (by omega);have xB:¬ s.size<1:=by omega
  have SS:¬ s.size=0:=by omega
  have q2:decide ((s.size:Int) > 32)=true:=decide_eq_true (by omega);rw [abX h];go_enter Tryz.func42,Tryz.ntmps42;go_wp2;go_ret;exact ⟨rfl,rfl⟩
theorem abY (s:ByteArray) (w:World) (h1:1<=s.size) (h2:s.size<=32):Calls Tryz.prog 42 #[.string s,.bool true] w fun e w'=>e=.returned (.bool (wd s true))/\w'=w:=by
 have q1:decide ((s.size:Int)<1)=false:=decide_eq_false (by omega);have SS:¬ s.size=0:=by omega
 have q2:decide ((s.size:Int) > 32)=false:=decide_eq_false (by omega);have SU:¬ 32<s.size:=by omega
 have hx0:=fun (w:World)=>jI s (by omega) w (P:=Tryz.prog) 9 Tryz.underlying9;have eP:=ae (uG (bt s 0) w);cases hc:sm (bt s 0) with
 | false =>
  rw [SN (b:=true) (by first|(rw [if_pos rfl];exact hc)|(rw [if_neg (by decide)];exact hc))]
  rw [hc] at eP;generalize bt s 0=c at *;clear hc h1 h2;go_enter Tryz.func42,Tryz.ntmps42;go_wp2_with fail;refine eP.out.mono ?_;rintro e u ⟨rfl,rfl⟩;go_wp2;go_ret;exact ⟨rfl,rfl⟩
 | true =>
  rw [SQ (b:=true) h1 h2 (by first|(rw [if_pos rfl];exact hc)|(rw [if_neg (by decide)];exact hc))]
  rw [hc] at eP;obtain ⟨R,hR⟩:∃R,R=en s pt 1:=⟨_,rfl⟩;have st0:=ae hR.symm;rw [<- hR];obtain ⟨ak,aT⟩:∃b,b=decide (R=s.size):=⟨_,rfl⟩;rw [<- aT];have bO:=ae aT;obtain ⟨c,hcc⟩:∃c,c=bt s 0:=⟨_,rfl⟩;rw [<- hcc] at hx0 eP;have H1:=ae h1;have H2:=ae h2;clear hc hcc hR aT h1 h2;go_enter Tryz.func42,Tryz.ntmps42;go_wp2_with fail;refine eP.out.mono ?_;rintro e u ⟨rfl,rfl⟩;go_wp2_with fail
  go_loop [5] (fun a=>∃k:Nat,a=.int .i64 k/\k<=s.size/\Hid (en s pt k=R)) (fun a=>match a with | .int _ k=>s.size-k.toNat|_=>0)
  case atStart=>exact ⟨1,rfl,H1.out,st0⟩
  case round =>
   obtain ⟨k,rfl,hk,hR⟩:=hrel;clear st0 hx0 eP;by_cases hp:k<s.size
   ·have q3:decide ((k:Int)<(s.size:Int))=true:=decide_eq_true (by omega);have hx:=fun (w:World)=>jP s k hp w (P:=Tryz.prog) 9 Tryz.underlying9;have hw1:wrap64 ((k:Int)+1)=((k+1:Nat):Int):=by have:=H2.out;unfold wrap64;omega
    have HC:=ae (KD (bt s k) u);cases hb:pt (bt s k) with
    | true =>
     have HR:=ae (hR.out.symm.trans (oO s pt hp hb));rw [hb] at HC;generalize bt s k=c2 at *;clear hb hR;go_wp2_with fail;refine HC.out.mono ?_;rintro e u ⟨rfl,rfl⟩;go_wp2
     go_round
     case rel=>exact ⟨k+1,by first|rfl|(congr 1),hp,ae HR.out.symm⟩
     case measure=>simp;omega
    | false =>
     have HR:=ae (hR.out.symm.trans (zf s pt hb));rw [hb] at HC;generalize bt s k=c2 at *;clear hb hR;go_wp2_with fail;refine HC.out.mono ?_;rintro e u ⟨rfl,rfl⟩;go_wp2;go_ret;exact ⟨ba (by rw [bO.out,HR.out];exact (decide_eq_false (by omega)).symm),rfl⟩
   ·have q3:decide ((k:Int)<(s.size:Int))=false:=decide_eq_false (by omega);have HR:=ae (hR.out.symm.trans (Bb s pt hp));clear hR;go_wp2;go_ret;exact ⟨ba (by rw [bO.out,HR.out];exact (decide_eq_true (by omega)).symm),rfl⟩
theorem abZ (s:ByteArray) (w:World) (h1:1<=s.size) (h2:s.size<=32):Calls Tryz.prog 42 #[.string s,.bool false] w fun e w'=>e=.returned (.bool (wd s false))/\w'=w:=by
 have q1:decide ((s.size:Int)<1)=false:=decide_eq_false (by omega);have SS:¬ s.size=0:=by omega
 have q2:decide ((s.size:Int) > 32)=false:=decide_eq_false (by omega);have SU:¬ 32<s.size:=by omega
 have hx0:=fun (w:World)=>jI s (by omega) w (P:=Tryz.prog) 9 Tryz.underlying9;have eP:=ae (wD (bt s 0) w);cases hc:cp (bt s 0) with
 | false =>
  rw [SN (b:=false) (by first|(rw [if_pos rfl];exact hc)|(rw [if_neg (by decide)];exact hc))]
  rw [hc] at eP;generalize bt s 0=c at *;clear hc h1 h2;go_enter Tryz.func42,Tryz.ntmps42;go_wp2_with fail;refine eP.out.mono ?_;rintro e u ⟨rfl,rfl⟩;go_wp2;go_ret;exact ⟨rfl,rfl⟩
 | true =>
  rw [SQ (b:=false) h1 h2 (by first|(rw [if_pos rfl];exact hc)|(rw [if_neg (by decide)];exact hc))]
  rw [hc] at eP;obtain ⟨R,hR⟩:∃R,R=en s pt 1:=⟨_,rfl⟩;have st0:=ae hR.symm;rw [<- hR];obtain ⟨ak,aT⟩:∃b,b=decide (R=s.size):=⟨_,rfl⟩;rw [<- aT];have bO:=ae aT;obtain ⟨c,hcc⟩:∃c,c=bt s 0:=⟨_,rfl⟩;rw [<- hcc] at hx0 eP;have H1:=ae h1;have H2:=ae h2;clear hc hcc hR aT h1 h2;go_enter Tryz.func42,Tryz.ntmps42;go_wp2_with fail;refine eP.out.mono ?_;rintro e u ⟨rfl,rfl⟩;go_wp2_with fail
  go_loop [5] (fun a=>∃k:Nat,a=.int .i64 k/\k<=s.size/\Hid (en s pt k=R)) (fun a=>match a with | .int _ k=>s.size-k.toNat|_=>0)
  case atStart=>exact ⟨1,rfl,H1.out,st0⟩
  case round =>
   obtain ⟨k,rfl,hk,hR⟩:=hrel;clear st0 hx0 eP;by_cases hp:k<s.size
   ·have q3:decide ((k:Int)<(s.size:Int))=true:=decide_eq_true (by omega);have hx:=fun (w:World)=>jP s k hp w (P:=Tryz.prog) 9 Tryz.underlying9;have hw1:wrap64 ((k:Int)+1)=((k+1:Nat):Int):=by have:=H2.out;unfold wrap64;omega
    have HC:=ae (KD (bt s k) u);cases hb:pt (bt s k) with
    | true =>
     have HR:=ae (hR.out.symm.trans (oO s pt hp hb));rw [hb] at HC;generalize bt s k=c2 at *;clear hb hR;go_wp2_with fail;refine HC.out.mono ?_;rintro e u ⟨rfl,rfl⟩;go_wp2
     go_round
     case rel=>exact ⟨k+1,by first|rfl|(congr 1),hp,ae HR.out.symm⟩
     case measure=>simp;omega
    | false =>
     have HR:=ae (hR.out.symm.trans (zf s pt hb));rw [hb] at HC;generalize bt s k=c2 at *;clear hb hR;go_wp2_with fail;refine HC.out.mono ?_;rintro e u ⟨rfl,rfl⟩;go_wp2;go_ret;exact ⟨ba (by rw [bO.out,HR.out];exact (decide_eq_false (by omega)).symm),rfl⟩
   ·have q3:decide ((k:Int)<(s.size:Int))=false:=decide_eq_false (by omega);have HR:=ae (hR.out.symm.trans (Bb s pt hp));clear hR;go_wp2;go_ret;exact ⟨ba (by rw [bO.out,HR.out];exact (decide_eq_true (by omega)).symm),rfl⟩
theorem KI (s:ByteArray) (b:Bool) (w:World):Calls Tryz.prog 42 #[.string s,.bool b] w fun e w'=>e=.returned (.bool (wd s b))/\w'=w:=by
 by_cases h1:s.size<1
 ·exact SR s w b (.inl h1)
 ·by_cases h2:32<s.size
  ·exact SR s w b (.inr h2)
  ·cases b
   ·exact abZ s w (by omega) (by omega)
   ·exact abY s w (by omega) (by omega)
namespace Lx
theorem xx {a b:Int} (h:a≠b):(a != b)=true:=bne_iff_ne.2 h
theorem zO {a b:Int} (h:a=b):(a != b)=false:=by subst h;simp
end Lx
theorem abu (k:Int) (x:ByteArray) (n a:Int) (w:World) (h4:k≠4) (hn:n≠0):Calls Tryz.prog 54 #[uA k x n a] w fun e w'=>e=.returned (.bool (dJ k x n))/\Below w.heap.size w w':=by
 have HA:=ae (tA w k x n a 47);have hg:dJ k x n=false:=by unfold dJ;rw [if_pos ⟨h4,hn⟩]
 have q0:=xx h4;have q1:=xx hn;rw [hg];clear hg h4 hn;go_enter Tryz.func54,Tryz.ntmps54;go_wp2;go_ret;exact ⟨rfl,HA.out⟩
theorem abw (k:Int) (x:ByteArray) (n a:Int) (w:World) (hk:k=2) (hn:n=0):Calls Tryz.prog 54 #[uA k x n a] w fun e w'=>e=.returned (.bool (dJ k x n))/\Below w.heap.size w w':=by
 have HA:=ae (tA w k x n a 47);have hg:dJ k x n=wd x false:=by unfold dJ;rw [if_neg (by rintro ⟨_,h⟩;exact h hn),if_neg (by omega),if_pos hk]
 have q0:=xx (show k≠4 by omega);have q1:=zO hn;have t1:=iW (show k≠1 by omega);have t2:=sP (show k=2 by omega);have HW:=ae (KI x false (w.alloc (.cells #[.int .i64 k,.string x,.int .i64 n,.int .i64 a] 47)));rw [hg];generalize wd x false=R at *;clear hg hk hn;go_enter Tryz.func54,Tryz.ntmps54;go_wp2_with fail;refine Calls.mono (show Calls _ _ _ _ _ from HW.out) ?_;rintro e u ⟨rfl,rfl⟩;go_wp2;go_ret;exact ⟨rfl,HA.out⟩
theorem abx (k:Int) (x:ByteArray) (n a:Int) (w:World) (hk:k=3) (hn:n=0):Calls Tryz.prog 54 #[uA k x n a] w fun e w'=>e=.returned (.bool (dJ k x n))/\Below w.heap.size w w':=by
 have HA:=ae (tA w k x n a 47);have hg:dJ k x n=wd x true:=by unfold dJ;rw [if_neg (by rintro ⟨_,h⟩;exact h hn),if_neg (by omega),if_neg (by omega),if_pos hk]
 have q0:=xx (show k≠4 by omega);have q1:=zO hn;have t1:=iW (show k≠1 by omega);have t2:=iW (show k≠2 by omega);have t3:=sP (show k=3 by omega);have HW:=ae (KI x true (w.alloc (.cells #[.int .i64 k,.string x,.int .i64 n,.int .i64 a] 47)));rw [hg];generalize wd x true=R at *;clear hg hk hn;go_enter Tryz.func54,Tryz.ntmps54;go_wp2_with fail;refine Calls.mono (show Calls _ _ _ _ _ from HW.out) ?_;rintro e u ⟨rfl,rfl⟩;go_wp2;go_ret;exact ⟨rfl,HA.out⟩
theorem aby (k:Int) (x:ByteArray) (n a:Int) (w:World) (hk:k=5) (hn:n=0):Calls Tryz.prog 54 #[uA k x n a] w fun e w'=>e=.returned (.bool (dJ k x n))/\Below w.heap.size w w':=by
 have HA:=ae (tA w k x n a 47);have hg:dJ k x n=bN x keys:=by unfold dJ;rw [if_neg (by rintro ⟨_,h⟩;exact h hn),if_neg (by omega),if_neg (by omega),if_neg (by omega),if_neg (by omega),if_pos hk]
 have q0:=xx (show k≠4 by omega);have q1:=zO hn;have t1:=iW (show k≠1 by omega);have t2:=iW (show k≠2 by omega);have t3:=iW (show k≠3 by omega);have t4:=iW (show k≠4 by omega);have t5:=sP (show k=5 by omega);have HW:=ae (Fy x (w.alloc (.cells #[.int .i64 k,.string x,.int .i64 n,.int .i64 a] 47)));rw [hg];generalize bN x keys=R at *;clear hg hk hn;go_enter Tryz.func54,Tryz.ntmps54;go_wp2_with fail;refine Calls.mono (show Calls _ _ _ _ _ from HW.out) ?_;rintro e u ⟨rfl,hb⟩;have HB:=ae (az HA.out hb);clear hb;go_wp2;go_ret;exact ⟨rfl,HB.out⟩
theorem abz (k:Int) (x:ByteArray) (n a:Int) (w:World) (hk:k=6) (hn:n=0):Calls Tryz.prog 54 #[uA k x n a] w fun e w'=>e=.returned (.bool (dJ k x n))/\Below w.heap.size w w':=by
 have HA:=ae (tA w k x n a 47);have hg:dJ k x n=bN x signs:=by unfold dJ;rw [if_neg (by rintro ⟨_,h⟩;exact h hn),if_neg (by omega),if_neg (by omega),if_neg (by omega),if_neg (by omega),if_neg (by omega),if_pos hk]
 have q0:=xx (show k≠4 by omega);have q1:=zO hn;have t1:=iW (show k≠1 by omega);have t2:=iW (show k≠2 by omega);have t3:=iW (show k≠3 by omega);have t4:=iW (show k≠4 by omega);have t5:=iW (show k≠5 by omega);have t6:=sP (show k=6 by omega);have HW:=ae (JC x (w.alloc (.cells #[.int .i64 k,.string x,.int .i64 n,.int .i64 a] 47)));rw [hg];generalize bN x signs=R at *;clear hg hk hn;go_enter Tryz.func54,Tryz.ntmps54;go_wp2_with fail;refine Calls.mono (show Calls _ _ _ _ _ from HW.out) ?_;rintro e u ⟨rfl,hb⟩;have HB:=ae (az HA.out hb);clear hb;go_wp2;go_ret;exact ⟨rfl,HB.out⟩
theorem abA (k:Int) (x:ByteArray) (n a:Int) (w:World) (h1:k≠1) (h2:k≠2) (h3:k≠3) (h4:k≠4) (h5:k≠5) (h6:k≠6) (hn:n=0):Calls Tryz.prog 54 #[uA k x n a] w fun e w'=>e=.returned (.bool (dJ k x n))/\Below w.heap.size w w':=by
 have HA:=ae (tA w k x n a 47);have hg:dJ k x n=false:=by unfold dJ;rw [if_neg (by rintro ⟨_,h⟩;exact h hn),if_neg h1,if_neg h2,if_neg h3,if_neg h4,if_neg h5,if_neg h6]
 have q0:=xx h4;have q1:=zO hn;have t1:=iW h1;have t2:=iW h2;have t3:=iW h3;have t4:=iW h4;have t5:=iW h5;have t6:=iW h6;rw [hg];clear hg h1 h2 h3 h4 h5 h6 hn;go_enter Tryz.func54,Tryz.ntmps54;go_wp2;go_ret;exact ⟨rfl,HA.out⟩
theorem abB (k:Int) (x:ByteArray) (n a:Int) (w:World) (hk:k=1) (hn:n=0):Calls Tryz.prog 54 #[uA k x n a] w fun e w'=>e=.returned (.bool (dJ k x n))/\Below w.heap.size w w':=by
 have HA:=ae (tA w k x n a 47);have hg:dJ k x n=(wd x true && !bN x keys):=by unfold dJ;rw [if_neg (by rintro ⟨_,h⟩;exact h hn),if_pos hk]
 have q0:=xx (show k≠4 by omega);have q1:=zO hn;have t1:=sP hk;have HW:=ae (KI x true (w.alloc (.cells #[.int .i64 k,.string x,.int .i64 n,.int .i64 a] 47)));have HK:=ae (Fy x (w.alloc (.cells #[.int .i64 k,.string x,.int .i64 n,.int .i64 a] 47)));rw [hg];generalize wd x true=R at *;generalize bN x keys=S at *;clear hg hk hn;cases R with
 | false =>
  go_enter Tryz.func54,Tryz.ntmps54;go_wp2_with fail;refine Calls.mono (show Calls _ _ _ _ _ from HW.out) ?_;rintro e u ⟨rfl,rfl⟩;go_wp2;go_ret;exact ⟨rfl,HA.out⟩
 | true =>
  go_enter Tryz.func54,Tryz.ntmps54;go_wp2_with fail;refine Calls.mono (show Calls _ _ _ _ _ from HW.out) ?_;rintro e u ⟨rfl,rfl⟩;go_wp2_with fail;refine Calls.mono (show Calls _ _ _ _ _ from HK.out) ?_;rintro e u ⟨rfl,hb⟩;have HB:=ae (az HA.out hb);clear hb;cases S
  ·go_wp2;go_ret;exact ⟨rfl,HB.out⟩
  ·go_wp2;go_ret;exact ⟨rfl,HB.out⟩
theorem abC (k:Int) (x:ByteArray) (n a:Int) (w:World) (hk:k=4):Calls Tryz.prog 54 #[uA k x n a] w fun e w'=>e=.returned (.bool (dJ k x n))/\Below w.heap.size w w':=by
 have HA:=ae (tA w k x n a 47);have hg:dJ k x n=(decide (x.size=0) && bV n):=by unfold dJ;rw [if_neg (by rintro ⟨h,_⟩;exact h hk),if_neg (by omega),if_neg (by omega),if_neg (by omega),if_pos hk]
 have q0:=zO hk;have t1:=iW (show k≠1 by omega);have t2:=iW (show k≠2 by omega);have t3:=iW (show k≠3 by omega);have t4:=sP (show k=4 by omega);have HK:=fun (u:World)=>ae (uV n u);rw [hg];clear hg;by_cases h0:x.size=0
 ·have hs:x=⟨#[]⟩:=by apply ByteArray.ext;exact Array.eq_empty_of_size_eq_zero h0
  subst hs;rw [decide_eq_true h0,Bool.true_and];generalize bV n=R at *;clear h0 hk;go_enter Tryz.func54,Tryz.ntmps54;go_wp2_with fail;refine Calls.mono (show Calls _ _ _ _ _ from (HK _).out) ?_;rintro e u ⟨rfl,rfl⟩;go_wp2;go_ret;exact ⟨rfl,HA.out⟩
 ·have qe:=YL h0;rw [decide_eq_false h0,Bool.false_and];clear h0 hk;go_enter Tryz.func54,Tryz.ntmps54;go_wp2;go_ret;exact ⟨rfl,HA.out⟩
theorem XP (k:Int) (x:ByteArray) (n a:Int) (w:World):Calls Tryz.prog 54 #[uA k x n a] w fun e w'=>e=.returned (.bool (dJ k x n))/\Below w.heap.size w w':=by
 by_cases h4:k=4
 ·exact abC k x n a w h4
 ·by_cases hn:n=0
  ·by_cases h1:k=1
   ·exact abB k x n a w h1 hn
   ·by_cases h2:k=2
    ·exact abw k x n a w h2 hn
    ·by_cases h3:k=3
     ·exact abx k x n a w h3 hn
     ·by_cases h5:k=5
      ·exact aby k x n a w h5 hn
      ·by_cases h6:k=6
       ·exact abz k x n a w h6 hn
       ·exact abA k x n a w h1 h2 h3 h4 h5 h6 hn
  ·exact abu k x n a w h4 hn
namespace Lx
theorem Ti {u:Nat} (h:u<10):wrap64 (48+(u:Int))=48+(u:Int)/\IntKind.u8.wrap (48+(u:Int))=48+(u:Int):=by
 refine ⟨by unfold wrap64;omega,?_⟩;rw [IntKind.wrap_u8];omega
theorem Tj (b:Nat) (d:Nat) (w:World) (hc:w.cell? ⟨b,0,none⟩=some (.int .u8 (48+(d:Int)))):(convert 90 9 (.slice (some ⟨b,0,none⟩) 1 1)).run Tryz.prog w=.ok (.string ⟨#[UInt8.ofNat (48+d)]⟩) w:=by
 have e:strOfNums [48+(d:Int)]=⟨#[UInt8.ofNat (48+d)]⟩:=by
  have:(48+(d:Int)).toNat=48+d:=by omega
  simp [strOfNums,this]
 rw [<- e]
 exact run_convert_bytes_arg w 90 5 Tryz.underlying90 Tryz.underlying5 b 0 1 1 [48+(d:Int)] rfl (fun i hi=>by
   match i,hi with
   | 0,_=>exact hc) 9 Tryz.underlying9
theorem nb (w:World) (x:Value) (t:TypeId):Below w.heap.size w (w.alloc (.cells #[x] t))/\(w.alloc (.cells #[x] t)).cell? ⟨w.heap.size,0,none⟩=some x:=⟨(Below.refl _ w).alloc (Nat.le_refl _) _,by rw [World.cell?_alloc_at _ t _ _ rfl];rfl⟩
def iG (u q r d:Int) (S1 S2 S3:ByteArray) (i:Nat) (v:Value) (w:World):Prop:=match i with
 | 0=>v=.int .i64 u
 | 1=>v=.int .i64 q
 | 2=>v=.string S1
 | 3=>v=.int .i64 u
 | 4=>v=.int .i64 r
 | 5=>v=.int .i64 d
 | 6=>v=.int .u8 d
 | 7=>∃b,v=.slice (some ⟨b,0,none⟩) 1 1/\w.cell? ⟨b,0,none⟩=some (.int .u8 d)
 | 8=>v=.string S2
 | _=>v=.string S3
theorem ab6 {u q r d:Int} {S1 S2 S3:ByteArray} {i:Nat} {v:Value} {w w':World} (h:iG u q r d S1 S2 S3 i v w) (hb:Below w.heap.size w w'):iG u q r d S1 S2 S3 i v w':=by
 unfold iG at h ⊢;split at h<;>first|exact h|(obtain ⟨b,h1,h2⟩:=h;exact ⟨b,h1,bb.ah hb h2⟩)
theorem ab7 {u:Nat} (h:¬ u<10):(⟨(Lib.decDigits (u / 10)).toArray⟩++⟨#[UInt8.ofNat (48+u%10)]⟩:ByteArray)=⟨(Lib.decDigits u).toArray⟩:=by
 rw [yI h];apply ByteArray.ext;apply Array.ext';simp [ByteArray.data_append]
theorem ab8 (u:Nat) (hu:u<=1073741824):IntKind.i64.wrap ((u:Int) / 10)=((u / 10:Nat):Int)/\(u:Int).tmod 10=((u%10:Nat):Int)/\IntKind.i64.wrap (48+((u%10:Nat):Int))=48+((u%10:Nat):Int):=by
 rw [IntKind.wrap_i64,IntKind.wrap_i64,Int.tmod_eq_emod_of_nonneg (by omega)];omega
end Lx
theorem ab9 (u:Nat) (h:u<10) (w:World):Calls Tryz.prog 55 #[.int .i64 u] w fun e w'=>e=.returned (.string ⟨(Lib.decDigits u).toArray⟩)/\Below w.heap.size w w':=by
 have q1:decide ((u:Int)<0)=false:=decide_eq_false (by omega);have q2:decide ((u:Int)<10)=true:=decide_eq_true (by omega);obtain ⟨hw1,hw2⟩:=Ti h;obtain ⟨hb,hc⟩:=nb w (.int .u8 (48+(u:Int))) 5;have hcv:=Tj w.heap.size u _ hc;rw [uw h];obtain ⟨D,hD⟩:∃D,UInt8.ofNat (48+u)=D:=⟨_,rfl⟩;rw [hD] at hcv ⊢;clear hD;have HB:=ae hb;clear h hb hc;go_enter Tryz.func55,Tryz.ntmps55;go_wp2;go_ret;exact ⟨rfl,HB.out⟩
theorem aca (u:Nat) (h:¬ u<10) (hu:u<=1073741824) (IH:∀w:World,Calls Tryz.prog 55 #[.int .i64 ((u / 10:Nat):Int)] w fun e w'=>e=.returned (.string ⟨(Lib.decDigits (u / 10)).toArray⟩)/\Below w.heap.size w w') (w:World) :
  Calls Tryz.prog 55 #[.int .i64 u] w fun e w'=>e=.returned (.string ⟨(Lib.decDigits u).toArray⟩)/\Below w.heap.size w w':=by
 have q1:decide ((u:Int)<0)=false:=decide_eq_false (by omega);have q2:decide ((u:Int)<10)=false:=decide_eq_false (by omega);have SU:¬ u<10:=h;obtain ⟨hw1,hw2,hw3⟩:=ab8 u hu;have hw4:=(Ti (show u%10<10 by omega)).2;have lT:=ae IH;have hC:=ab7 h;have hl:=AK 9 (u / 10) (by omega);have hL:¬ 9223372036854775807<(⟨(Lib.decDigits (u / 10)).toArray⟩:ByteArray).size+(⟨#[UInt8.ofNat (48+u%10)]⟩:ByteArray).size:=by rw [AJ];show ¬ _<_+1;omega
 have Tm:=ae (fun (b:Nat) (w:World) hc=>Tj b (u%10) w hc);generalize (⟨(Lib.decDigits (u / 10)).toArray⟩:ByteArray)=S1 at *;generalize (⟨#[UInt8.ofNat (48+u%10)]⟩:ByteArray)=S2 at *;generalize (⟨(Lib.decDigits u).toArray⟩:ByteArray)=S3 at *;generalize ((u%10:Nat):Int)=r at *;generalize ((u / 10:Nat):Int)=q at *;obtain ⟨d,hd0⟩:∃d,48+r=d:=⟨_,rfl⟩;rw [hd0] at hw3 hw4 Tm;clear IH h hl hu;go_enter Tryz.func55,Tryz.ntmps55;go_upto_region 5 with fail;refine ag.Sf 11 (fun i=>if i<10 then 16+i else 2) (iG u q r d S1 S2 S3) (by kernel_rfl) (by kernel_rfl) (fun i j h1 h2 h=>by have h':(if i<10 then 16+i else 2)=(if j<10 then 16+j else 2):=h;split at h'<;>split at h'<;>omega) (ag.Se (size:=26) (by kernel_rfl)) (fun i v w w' _ h hb=>ab6 h hb) ?hstep ?hend
 case hstep =>
  intro i o a w2 hi ho hF hB hd;have f0:a.tmps[0]?.getD undef=.int .i64 (u:Int):=ag.au (hF.eval 0 (fun i hi=>by show (if i<10 then 16+i else 2)≠0;split<;>omega))
  have hcase:i=0\/i=1\/i=2\/i=3\/i=4\/i=5\/i=6\/i=7\/i=8\/i=9\/i=10:=by clear hw1 hw2 hw3 hw4 hd0;omega
  clear hi;rcases hcase with rfl|rfl|rfl|rfl|rfl|rfl|rfl|rfl|rfl|rfl|rfl
  all_goals (simp only [List.getElem?_toArray,List.getElem?_cons_succ,List.getElem?_cons_zero,Option.some.injEq] at ho;subst ho;refine ag.Does.go rfl (ag.bw fun K hK=>?_))
  ·go_simp;exact hK _ _ ⟨_,rfl,Below.refl _ _,rfl⟩
  ·have g0:a.tmps[16]?.getD undef=.int .i64 (u:Int):=ag.au (hd 0 (by decide));go_simp;exact hK _ _ ⟨_,rfl,Below.refl _ _,rfl⟩
  ·have g0:a.tmps[17]?.getD undef=.int .i64 q:=ag.au (hd 1 (by decide));have cJ:=ae hK;clear hK;go_simp;refine (lT.out _).mono ?_;rintro e w3 ⟨rfl,hb3⟩;exact cJ.out _ _ ⟨_,rfl,hb3,rfl⟩
  ·go_simp;exact hK _ _ ⟨_,rfl,Below.refl _ _,rfl⟩
  ·have g0:a.tmps[19]?.getD undef=.int .i64 (u:Int):=ag.au (hd 3 (by decide));go_simp;exact hK _ _ ⟨_,rfl,Below.refl _ _,by first|rfl|(simp only [iG,hw2])⟩
  ·have g0:a.tmps[20]?.getD undef=.int .i64 r:=ag.au (hd 4 (by decide));go_simp;exact hK _ _ ⟨_,rfl,Below.refl _ _,rfl⟩
  ·have g0:a.tmps[21]?.getD undef=.int .i64 d:=ag.au (hd 5 (by decide));go_simp;exact hK _ _ ⟨_,rfl,Below.refl _ _,rfl⟩
  ·have g0:a.tmps[22]?.getD undef=.int .u8 d:=ag.au (hd 6 (by decide));have HN:=ae (nb w2 (.int .u8 d) 5);go_simp;exact hK _ _ ⟨_,rfl,HN.out.1,⟨_,rfl,HN.out.2⟩⟩
  ·obtain ⟨b,g0',hc⟩:=hd 7 (by decide);have g0:a.tmps[23]?.getD undef=.slice (some ⟨b,0,none⟩) 1 1:=ag.au g0';have hcv:=Tm.out b w2 hc;go_simp;exact hK _ _ ⟨_,rfl,Below.refl _ _,rfl⟩
  ·have g0:a.tmps[18]?.getD undef=.string S1:=ag.au (hd 2 (by decide));have g1:a.tmps[24]?.getD undef=.string S2:=ag.au (hd 8 (by decide));go_simp;exact hK _ _ ⟨_,rfl,Below.refl _ _,by first|rfl|(simp only [iG,hC])⟩
  ·have g0:a.tmps[25]?.getD undef=.string S3:=ag.au (hd 9 (by decide));go_simp;exact hK _ _ ⟨_,rfl,Below.refl _ _,rfl⟩
 case hend =>
  intro a w2 hF hB hG;have gl:a.eval (.tmp 2)=.string S3:=hG 10 (by decide);have HB:=ae hB;go_wp2_with fail;refine bodyPost_ret (v:=.string S3) ((results_tmp rfl _ _ _).trans (congrArg (fun v=>Result.ok v w2) gl)) hF.defers ⟨rfl,HB.out⟩
theorem K8:∀(m u:Nat),u<=m->u<=1073741824->∀w:World,Calls Tryz.prog 55 #[.int .i64 u] w fun e w'=>e=.returned (.string ⟨(Lib.decDigits u).toArray⟩)/\Below w.heap.size w w'
 | m,u,hm,hu,w=>by
  by_cases h:u<10
  ·exact ab9 u h w
  ·match m,hm with
   | 0,hm=>omega
   | m+1,hm=>exact aca u h hu (fun w=>K8 m (u / 10) (by omega) (by omega) w) w
theorem O8 (n:Int) (hn:bV n=true) (w:World):Calls Tryz.prog 55 #[.int .i64 n] w fun e w'=>e=.returned (.string (nW n))/\Below w.heap.size w w':=by
 unfold bV at hn;rw [Bool.and_eq_true,decide_eq_true_eq,decide_eq_true_eq] at hn;unfold nW;by_cases h:n<0
 ·rw [Tn h];have q1:decide (n<0)=true:=decide_eq_true h;have hw:wrap64 (-n)=((n.natAbs:Nat):Int):=by unfold wrap64;omega
  have hw2:IntKind.i64.wrap (-n)=((n.natAbs:Nat):Int):=by rw [IntKind.wrap_i64];omega
  have H:=ae (K8 n.natAbs n.natAbs (Nat.le_refl _) (by omega) w)
  have hc:(⟨#[126]⟩++⟨(Lib.decDigits n.natAbs).toArray⟩:ByteArray)=⟨(126 :: Lib.decDigits n.natAbs).toArray⟩:=by
   apply ByteArray.ext;apply Array.ext';simp [ByteArray.data_append]
  have hl:=AK 9 n.natAbs (by omega);have hL:¬ 9223372036854775807<1+(⟨(Lib.decDigits n.natAbs).toArray⟩:ByteArray).size:=by rw [AJ];omega
  rw [<- hc];generalize (⟨(Lib.decDigits n.natAbs).toArray⟩:ByteArray)=S at *;generalize ((n.natAbs:Nat):Int)=m at *;clear hc hl hn;go_enter Tryz.func55,Tryz.ntmps55;go_wp2_with fail;refine Calls.mono (show Calls _ _ _ _ _ from H.out) ?_;rintro e u ⟨rfl,hb⟩;have HB:=ae hb;clear hb;go_wp2;go_ret;exact ⟨rfl,HB.out⟩
 ·rw [Tq h];have e:n=((n.toNat:Nat):Int):=by omega
  have:=K8 n.toNat n.toNat (Nat.le_refl _) (by omega) w
  rw [<- e] at this;exact this
end Go.Proofs.YtkdbgopgjbfhbaaGreatDoor
