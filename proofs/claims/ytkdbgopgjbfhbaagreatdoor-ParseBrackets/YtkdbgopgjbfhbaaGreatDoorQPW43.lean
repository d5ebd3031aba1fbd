/- Texts that the claim needs. -/
import Derived.Test.YtkdbgopgjbfhbaaGreatDoorQPW42
import Derived.Test.YtkdbgopgjbfhbaaGreatDoorQPW38
import Derived.Test.YtkdbgopgjbfhbaaGreatDoorQPW34
import Derived.Test.YtkdbgopgjbfhbaaGreatDoorQPW41
import Derived.Test.YtkdbgopgjbfhbaaGreatDoorQPW36
import Derived.Test.YtkdbgopgjbfhbaaGreatDoorQPW29
namespace Go.Proofs.YtkdbgopgjbfhbaaGreatDoor
open Go.RowKit Lx Pz bq
set_option linter.unusedVariables false
set_option maxRecDepth 100000
set_option maxHeartbeats 4000000
namespace Pz
theorem Gw {m:Nat} {L:List Tk} (i:Nat) (x y:Tk) (h:L[i]?=some x) (h':(bV m L)[i]?=some y):y=⟨x.k,x.x,x.n,(m:Int)+x.a⟩:=by
 unfold bV at h';rw [List.getElem?_map,h] at h';injection h' with h';exact h'.symm
theorem DI {s:ByteArray} (hz:s.size<=4000) (h0:(lx s).2.2=0):(lx s).1.length<=s.size:=by
 obtain ⟨he,hs⟩:=JI s bR;exact (Qn s bR _ he hs (by show s.size+2<4096;omega) h0 (by rw [JY])).2
theorem aae (s:ByteArray):(⟨#[40,40]⟩:ByteArray)++s++⟨#[10,41,41]⟩=bL++(s++⟨#[10]⟩++bR):=by
 rw [ByteArray.append_assoc,ByteArray.append_assoc];rfl
theorem aaf (s:ByteArray):(⟨#[108,101,116,32,120,32,61,32]⟩:ByteArray)++s++⟨#[10,105,110,32]⟩++s=lX++(s++⟨#[10]⟩++(iX++s)):=by
 have h:(⟨#[10]⟩:ByteArray)++(iX++s)=⟨#[10,105,110,32]⟩++s:=by rw [<- ByteArray.append_assoc];rfl
 rw [ByteArray.append_assoc,ByteArray.append_assoc,ByteArray.append_assoc,h]
abbrev Gx:Int->Int->Prop:=fun u v=>v=u+2/\0<=u/\u<=8192
section
variable {s:ByteArray} {t:Value} (hs:Says s (.ok ([],t))) (hz:s.size<=4000)
theorem Kq (hs:Says s (.ok ([],t))):(lx s).2.2=0:=by
 unfold Says at hs;split at hs
 ·cases hs
 ·rename_i hc;simpa using hc
theorem aag (hs:Says s (.ok ([],t))) (hz:s.size<=4000):∃t',Says ((⟨#[40,40]⟩:ByteArray)++s++⟨#[10,41,41]⟩) (.ok ([],t'))/\AL Gx t t':=by
 have h0:=Kq hs;obtain ⟨j,d,hp,hf,hm,hd⟩:=hs.good;have he:=Kr hp;have hlx:=Zo s hz h0;rw [aae];generalize hq:bL++(s++⟨#[10]⟩++bR)=q at *
 have hsh:bV 2 ((lx s).1++bV (s.size+1) [⟨6,sR,0,0⟩,⟨6,sR,0,1⟩])=bV 2 (lx s).1++[⟨6,sR,0,(2:Nat)+(((s.size+1:Nat):Int)+0)⟩,⟨6,sR,0,(2:Nat)+(((s.size+1:Nat):Int)+1)⟩]:=by
  rw [CZ];rfl
 rw [hsh] at hlx
 obtain ⟨t',ht',hal⟩:=X8 (Pl:=Gx) (L:=(lx s).1) (M:=bV 2 (lx s).1) (en:=s.size) (en':=q.size) (l1:=⟨6,sL,0,0⟩) (l2:=⟨6,sL,0,1⟩) (r1:=⟨6,sR,0,(2:Nat)+(((s.size+1:Nat):Int)+0)⟩) (r2:=⟨6,sR,0,(2:Nat)+(((s.size+1:Nat):Int)+1)⟩) rfl rfl rfl rfl (uK _ _)
  (fun i x y h h'=>by
   obtain rfl:=Gw i x y h h';have hat:=(Pz.Ra s).1 x (List.mem_of_getElem? h);exact ⟨rfl,rfl,rfl,by show ((2:Nat):Int)+x.a=x.a+2;omega,hat.1,by have:=hat.2;omega⟩) he
 refine ⟨t',?_,hal⟩;unfold Says;rw [hlx];rw [if_neg (by simp)];rw [Ks (by rfl) ht'];refine ⟨d,Bp d t t' hal hf,?_⟩;unfold kX;rw [<- aah (Pl:=Gx) (ds:=[]) (ks:=[]) trivial hal,<- aai (Pl:=Gx) (ds:=[]) (ks:=[]) trivial hal,hm,hd];rfl
theorem aaj (hs:Says s (.ok ([],t))) (hz:s.size<=4000):∃t' d,Says ((⟨#[102,117,110,32,120,32,45,62,32]⟩:ByteArray)++s) (kX (d+1) [] (nd 3 bx e0 0 [t'] [] 0))/\AL rq t t':=by
 have h0:=Kq hs;obtain ⟨j,d,hp,hf,hm,hd⟩:=hs.good;have he:=Kr hp;have hlx:=aak s hz h0 (by have:=DI hz h0;omega)
 obtain ⟨t',ht',hal⟩:=Yl (Pl:=rq) (L:=(lx s).1) (M:=bV 9 (lx s).1) (en:=s.size) (en':=(fX++s).size) (t1:=⟨5,eY,0,0⟩) (t2:=⟨1,bx,0,4⟩) (t3:=⟨6,gU,0,6⟩) rfl rfl rfl (uK _ _)
  (fun i x y h h'=>by obtain rfl:=Gw i x y h h';exact ⟨rfl,rfl,rfl,trivial⟩) he
 refine ⟨t',d,?_,hal⟩;show Says (fX++s) _;unfold Says;rw [hlx];rw [if_neg (by simp)];have hp2:=Ks (K:=[(⟨5,eY,0,0⟩:Tk),⟨1,bx,0,4⟩,⟨6,gU,0,6⟩]++bV 9 (lx s).1) (by rfl) ht';rw [show ((⟨5,eY,0,0⟩:Tk) :: ⟨1,bx,0,4⟩ :: ⟨6,gU,0,6⟩ :: bV 9 (lx s).1) = [(⟨5,eY,0,0⟩:Tk),⟨1,bx,0,4⟩,⟨6,gU,0,6⟩]++bV 9 (lx s).1 from rfl];rw [hp2];exact ⟨d+1,⟨⟨_,_,_,_,_,_,_,rfl⟩,fun x hx=>(by rw [List.mem_singleton.1 hx];exact Bp d t t' hal hf),fun x hx=>by cases hx⟩,rfl⟩
theorem aal (hs:Says s (.ok ([],t))) (hz:s.size<=4000):(∃a,Says ((⟨#[108,101,116,32,120,32,61,32]⟩:ByteArray)++s++⟨#[10,105,110,32]⟩++s) (.error (a,3)))\/∃t1 t2 d,Says ((⟨#[108,101,116,32,120,32,61,32]⟩:ByteArray)++s++⟨#[10,105,110,32]⟩++s) (kX (d+1) [] (nd 5 bx e0 0 [t1,t2] [] 0))/\AL rq t t2:=by
 have h0:=Kq hs;obtain ⟨j,d,hp,hf,hm,hd⟩:=hs.good;have he:=Kr hp;have hlx:=YR s hz h0 (by have:=DI hz h0;omega);rw [aaf];generalize lX++(s++⟨#[10]⟩++(iX++s))=q at *;rcases hlx with h3|hlx
 ·refine .inl ⟨(lx q).2.1,?_⟩;unfold Says;rw [h3,if_pos (by simp)]
 ·refine .inr ?_
  have hsh:(⟨5,fA,0,0⟩ :: ⟨1,bx,0,4⟩ :: ⟨6,jJ,0,6⟩ :: bV 8 ((lx s).1++bV (s.size+1) (⟨5,lq,0,0⟩ :: bV 3 (lx s).1)):List Tk)=([⟨5,fA,0,0⟩,⟨1,bx,0,4⟩,⟨6,jJ,0,6⟩]++(bV 8 (lx s).1++[⟨5,lq,0,(8:Nat)+(((s.size+1:Nat):Int)+0)⟩]))++bV 8 (bV (s.size+1) (bV 3 (lx s).1)):=by
   rw [CZ];simp [bV]
  rw [hsh] at hlx
  obtain ⟨t1,t2,ht',aam,Rb⟩:=aan (P1:=rq) (P2:=rq) (L:=(lx s).1) (M:=bV 8 (lx s).1) (N:=bV 8 (bV (s.size+1) (bV 3 (lx s).1))) (en:=s.size) (en':=q.size) (t1:=⟨5,fA,0,0⟩) (t2:=⟨1,bx,0,4⟩) (t3:=⟨6,jJ,0,6⟩) (t4:=⟨5,lq,0,(8:Nat)+(((s.size+1:Nat):Int)+0)⟩) rfl rfl rfl rfl (uK _ _)
   (fun i x y h h'=>by obtain rfl:=Gw i x y h h';exact ⟨rfl,rfl,rfl,trivial⟩) (by rw [uK,uK,uK])
   (fun i x y h h'=>by
    have h1:(bV 3 (lx s).1)[i]?=some ⟨x.k,x.x,x.n,((3:Nat):Int)+x.a⟩:=by unfold bV;rw [List.getElem?_map,h];rfl
    have h2:(bV (s.size+1) (bV 3 (lx s).1))[i]?=some ⟨x.k,x.x,x.n,((s.size+1:Nat):Int)+(((3:Nat):Int)+x.a)⟩:=by
     generalize bV 3 (lx s).1=M at *;unfold bV;rw [List.getElem?_map,h1];rfl
    obtain rfl:=Gw i _ y h2 h';exact ⟨rfl,rfl,rfl,trivial⟩) he
  refine ⟨t1,t2,d,?_,Rb⟩;unfold Says;rw [hlx];rw [if_neg (by simp)];rw [Ks (by rfl) ht']
  exact ⟨d+1,⟨⟨_,_,_,_,_,_,_,rfl⟩,fun x hx=>(by
   rcases List.mem_cons.1 hx with rfl|hx
   ·exact Bp d t _ aam hf
   ·rw [List.mem_singleton.1 hx];exact Bp d t t2 Rb hf),fun x hx=>by cases hx⟩,rfl⟩
end
theorem Kt {α:Type} {R S:α->α->Prop} (h:∀a b,R a b->S b a):∀ {l k:List α},l2 R l k->l2 S k l
 | [],[],_=>trivial
 | a :: l,b :: k,h2=>⟨h a b h2.1,Kt h h2.2⟩
 | [],_ :: _,h=>h.elim
 | _ :: _,[],h=>h.elim
theorem Ku:∀(d:Nat) (a b:Value),lk rq d a b->lk rq d b a
 | 0,_,_,h=>h
 | d+1,a,b,⟨k,x,y,n,es,ps,es',ps',u,v,h1,h2,hp,h3,h4⟩=>⟨k,x,y,n,es',ps',es,ps,v,u,h2,h1,trivial,Kt (fun a b h=>Ku d a b h) h3,Kt (fun a b h=>Ku d a b h) h4⟩
theorem AL.sym {a b:Value} (h:AL rq a b):AL rq b a:=by obtain ⟨d,h⟩:=h;exact ⟨d,Ku d a b h⟩
def Kv (w:World) (t:Value) (e:Ending) (w':World):Prop:=∃(g0 g1 g2 g3 g4 g5 g6 g7:Value) (a z:Int),e=.returned (.tuple #[.agg #[g0,g1,g2,g3,g4,g5,g6,g7],.int .i64 a,.int .i64 z])/\Below w.heap.size w w' /\
 (g0.oneCell'=true/\g1.oneCell'=true/\g2.oneCell'=true/\g3.oneCell'=true/\g4.oneCell'=true/\g5.oneCell'=true/\g6.oneCell'=true/\g7.oneCell'=true)/\((z=0/\lD w.heap.size ([],t) (.agg #[g0,g1,g2,g3,g4,g5,g6,g7]) w')\/z=3\/z=4)
theorem Kw {w w':World} {t:Value} {e:Ending} {a z:Int} (h:zH w (.error (a,z)) e w') (hz:z=3\/z=4):Kv w t e w' :=
 ⟨_,_,_,_,_,_,_,_,a,z,h.2,h.1,⟨rfl,rfl,rfl,rfl,rfl,rfl,rfl,rfl⟩,.inr hz⟩
theorem Rc {w w':World} {d:Nat} {t:Value} {e:Ending} (h:zH w (kX d [] t) e w'):Kv w t e w':=by
 unfold kX at h;split at h
 ·exact Kw h (.inl rfl)
 ·split at h
  ·exact Kw h (.inr rfl)
  ·obtain ⟨hb,v,he,hp⟩:=h;obtain ⟨u,k,x,y,n,vu,vz,a,rfl,hD,hM⟩:=hp;obtain ⟨q1,q2⟩:=Du hM;have q0:u.oneCell'=true:=by obtain ⟨oD,cD,rfl,_⟩:=cF hD;rfl
   exact ⟨_,_,_,_,_,_,_,_,0,0,he,hb,⟨q0,rfl,rfl,rfl,rfl,q1,q2,rfl⟩,.inl ⟨rfl,u,k,x,y,n,vu,vz,a,rfl,hD,hM⟩⟩
end Pz
namespace Pz
theorem M8 {f:Nat->Value->Nat} (hf:∀c t,c+1<=f c t) (l:List Value) (c:Nat):c<=ed f c l:=by
 induction l generalizing c with
 | nil=>exact Nat.le_refl _
 | cons t l ih =>
  unfold ed;split
  ·exact Nat.le_refl _
  ·have:=hf c t;have:=ih (f c t);omega
theorem VM:∀(d c:Nat) (t:Value),c+1<=fS d c t
 | 0,c,t=>Nat.le_refl _
 | d+1,c,t=>by unfold fS;exact M8 (VM d) _ _
theorem Py:∀(d c:Nat) (t:Value),c+1<=il d c t
 | 0,c,t=>Nat.le_refl _
 | d+1,c,t=>by unfold il;exact Nat.le_trans (M8 (Py d) _ _) (M8 (VM d) _ _)
end Pz
namespace Pz
end Pz
namespace Pz
def Pw (d:Nat) (ds:List Value) (e:Value):Bool:=!kV d ds e && (!pq 256 ds e && (ds.all (Db 256) && yV 256 e))
end Pz
namespace Pz
theorem Jo {α:Type} {P:Nat->α->Prop} (hm:∀d x,P d x->P (d+1) x):∀l:List α,(∀x ∈ l,∃d,P d x)->∃d,∀x ∈ l,P d x
 | [],_=>⟨0,fun x hx=>by cases hx⟩
 | y :: l,h=>by
  have hle:∀ {d e:Nat} {x:α},d<=e->P d x->P e x:=fun {d e x} h hp=>by
   induction h with
   | refl=>exact hp
   | step _ ih=>exact hm _ _ ih
  obtain ⟨d,hd⟩:=h y (List.Mem.head _);obtain ⟨e,he⟩:=Jo hm l (fun x hx=>h x (List.Mem.tail _ hx));refine ⟨d+e,fun x hx=>?_⟩;rcases List.mem_cons.1 hx with rfl|hx
  ·exact hle (Nat.le_add_right _ _) hd
  ·exact hle (Nat.le_add_left _ _) (he x hx)
theorem Po:∀(d:Nat) (l:List Value),mI d l->mI (d+1) l
 | 0,l,h=>fun x hx=>by have h':l = []:=h;rw [h'] at hx;cases hx
 | d+1,l,h=>fun x hx=>FB d x (h x hx)
theorem Ym {B d:Nat} {w:World} {v:Value} {ts:List Value} (h:Row 4 (eM B w d) v ts):mI d ts:=by
 cases d with
 | zero=>exact uO (h.imp fun _ _ _ _ hf=>hf)
 | succ d=>exact fun x hx=>by obtain ⟨b,o,hf⟩:=pW h hx;exact eM.fit d b o x hf
theorem Yn {B:Nat} {w:World} {v:Value} {ds:List Value} (h:mL B v ds w):∃dt,∀c ∈ ds,wN dt c:=by
 refine Jo (P:=wN) (fun d c hc x hx=>Po d _ (hc x hx)) ds fun c hc=>?_;obtain ⟨b,o,hB,x,ps,cs,a,u,z,rfl,_,_,_,_,_,hcs⟩:=pW h hc;refine Jo (P:=Jn) (fun d c hc=>Po d _ hc) cs fun k hk=>?_;obtain ⟨b',o',hB',x',ts,u',rfl,_,_,d,hr⟩:=pW hcs hk;exact ⟨d,Ym hr⟩
theorem Pp (s:ByteArray):∀(f k:Nat),Ints.FC s f k≠0->∃j,Ints.C0.getD j ⟨#[]⟩=s
 | 0,k,h=>absurd rfl h
 | f+1,k,h=>by
  unfold Ints.FC at h;split at h
  ·exact ⟨k,by assumption⟩
  ·exact Pp s f (k+1) h
theorem Yo (j:Nat):(Ints.C0.getD j ⟨#[]⟩).size<=33:=by
 rcases Nat.lt_or_ge j 8 with h|h
 ·have:j=0\/j=1\/j=2\/j=3\/j=4\/j=5\/j=6\/j=7:=by omega
  rcases this with rfl|rfl|rfl|rfl|rfl|rfl|rfl|rfl<;>decide
 ·rw [List.getD_eq_getElem?_getD,List.getElem?_eq_none (by simpa [Ints.C0] using h)];decide
theorem Yp {k:Int} {x:ByteArray} {n:Int} (h:nI k x n=true):x.size<=33:=by
 unfold nI at h;split at h
 ·cases h
 ·split at h
  ·rw [Bool.and_eq_true] at h;have:=Jp h.1;omega
  ·split at h
   ·have:=Jp h;omega
   ·split at h
    ·have:=Jp h;omega
    ·split at h
     ·rw [Bool.and_eq_true,decide_eq_true_eq] at h;omega
     ·split at h
      ·exact Yq h
      ·split at h
       ·exact Yr h
       ·cases h
theorem C8 {k:Int} {x:ByteArray} (h:eT k x=true):x.size<=140737488355328:=by
 have h33:x.size<=33:=by
  unfold eT at h;split at h
  ·rw [of_decide_eq_true h];decide
  ·split at h
   ·obtain ⟨j,hj⟩:=Pp x 7 1 (of_decide_eq_true h);rw [<- hj];exact Yo j
   ·exact Yp h
 omega
theorem Yt {n:Int} (h:ez n=true):-9223372036854775808<=n/\n<=9223372036854775807:=by
 unfold ez at h;rw [Bool.and_eq_true,decide_eq_true_eq,decide_eq_true_eq] at h;omega
theorem Jq {nk:Int} {nm:Bool} {ar:Int} {x:ByteArray} {n:Int} {m:Nat} (h:AZ nk nm ar x n m=true):x.size<=140737488355328/\-9223372036854775808<=n/\n<=9223372036854775807:=by
 unfold AZ at h;rw [Bool.and_eq_true,Bool.and_eq_true,Bool.or_eq_true (decide (n=0)),Bool.and_eq_true] at h;refine ⟨C8 h.1,?_⟩;rcases h.2.2 with h2|h2
 ·rw [of_decide_eq_true h2];omega
 ·exact Yt h2.2
theorem Pq:∀(m:Nat) (t:Value),yT m t=true->C9 m t
 | 0,t,h=>trivial
 | m+1,t,h=>by
  unfold yT at h;rw [Bool.and_eq_true,List.all_eq_true] at h;have h1:=h.1;unfold uP at h1;rw [Bool.and_eq_true,Bool.and_eq_true] at h1;obtain ⟨q1,q2⟩:=Jq h1.2.2;exact ⟨q1,trivial,q2,fun x hx=>Pq m x (h.2 x hx),trivial⟩
theorem Ps:∀(m:Nat) (t:Value),yU m t=true->C9 m t
 | 0,t,h=>trivial
 | m+1,t,h=>by
  unfold yU at h;rw [Bool.and_eq_true,List.all_eq_true] at h;have h1:=h.1;unfold uR at h1;rw [Bool.and_eq_true] at h1;obtain ⟨q1,q2⟩:=Jq h1.2;exact ⟨q1,trivial,q2,fun x hx=>Ps m x (h.2 x hx),trivial⟩
theorem Pt:∀(m:Nat) (t:Value),yV m t=true->Jr m t
 | 0,t,h=>trivial
 | m+1,t,h=>by
  unfold yV at h;rw [Bool.and_eq_true,Bool.and_eq_true,List.all_eq_true,List.all_eq_true] at h;have h1:=h.1;unfold mM at h1;rw [Bool.and_eq_true,Bool.and_eq_true,Bool.and_eq_true (AZ _ _ _ _ _ _)] at h1;obtain ⟨q1,q2⟩:=Jq h1.2.2.1;exact ⟨q1,C8 h1.2.2.2,q2,fun x hx=>Pt m x (h.2.1 x hx),fun x hx=>Ps m x (h.2.2 x hx)⟩
theorem Yu {m:Nat} {c:Value} (h:Da m c=true):Pu m c:=by
 unfold Da at h;rw [Bool.and_eq_true,List.all_eq_true] at h;exact ⟨C8 h.1,fun t ht=>Pq m t (h.2 t ht)⟩
theorem Yv {m:Nat} {d:Value} (h:Db m d=true):Pv m d:=by
 unfold Db at h;rw [Bool.and_eq_true,Bool.and_eq_true,Bool.and_eq_true,List.all_eq_true,List.all_eq_true] at h;exact ⟨C8 h.1,fun p hp=>C8 (h.2.1 p hp),fun c hc=>Yu (h.2.2.2 c hc)⟩
theorem Says.all {s:ByteArray} {ds:List Value} {t:Value} (h:Says s (.ok (ds,t))):(∀d,fit d t->Pw d ds t=true/\1<=il (d+1) 0 t/\il (d+1) 0 t<=2048)/\(∀c ∈ ds,Pv 256 c)/\Jr 256 t:=by
 obtain ⟨j,d,hp,hf,hm,hd⟩:=h.good;have hg:=Yw (Yx (Yy s) hp) hd;have hg':=hg;unfold Js at hg';rw [Bool.and_eq_true,List.all_eq_true] at hg';refine ⟨fun e he=>?_,fun c hc=>Yv (hg'.1 c hc),Pt 256 t hg'.2⟩;have hme:kV e ds t=false:=by rw [Px hf he,hm]
 refine ⟨?_,by have:=Py (e+1) 0 t;omega,?_⟩
 ·unfold Pw;rw [hme,hd];exact hg
 ·have h2:=hme;unfold kV at h2;rw [Bool.or_eq_false_iff,Bool.or_eq_false_iff,decide_eq_false_iff_not,decide_eq_false_iff_not] at h2;omega
end Pz
namespace Pz
theorem JS (d:Nat) (k:Int) (x y:ByteArray) (n a:Int):fit d (nd k x y n [] [] a):=JC (Nat.zero_le d) ⟨⟨_,_,_,_,_,_,_,rfl⟩,rfl,rfl⟩
theorem JU {d:Nat} {k:Int} {x y:ByteArray} {n:Int} {es ps:List Value} {a:Int} (h1:∀t ∈ es,fit d t) (h2:∀t ∈ ps,fit d t):fit (d+1) (nd k x y n es ps a):=⟨⟨_,_,_,_,_,_,_,rfl⟩,h1,h2⟩
def wT:ByteArray:=⟨#[102,117,110,32,120,32,45,62,32,120,32,43,32,40,49,32,42,32,121,41]⟩
def wU:ByteArray:=⟨#[102,117,110,32,120,32,45,62]⟩
def YW:Value:=nd 9 ⟨#[43]⟩ e0 0 [nd 1 ⟨#[120]⟩ e0 0 [] [] 9,nd 9 ⟨#[42]⟩ e0 0 [nd 2 e0 e0 1 [] [] 14,nd 1 ⟨#[121]⟩ e0 0 [] [] 18] [] 14] [] 9
def zu:Value:=nd 3 ⟨#[120]⟩ e0 0 [YW] [] 0
theorem YX:fit 3 zu:=JU (mem1 (JU (mem2 (JS _ _ _ _ _ _) (JU (mem2 (JS _ _ _ _ _ _) (JS _ _ _ _ _ _)) iq)) iq)) iq
theorem YY {s:ByteArray} {ds:List Value} {t:Value} {j d:Nat} (h0:(lx s).2.2=0) (h:jQ (lx s).1 s.size=.ok ((ds,t),j)) (hd:fit d t) (h1:kV d ds t=false) (h2:pq 256 ds t=false):Says s (.ok (ds,t)):=by
 unfold Says;rw [if_neg (by simpa using h0),h];exact ⟨d,hd,by unfold kX;rw [if_neg (by simp [h1]),if_neg (by simp [h2])]⟩
theorem YZ {s:ByteArray} {z:Int} (h0:(lx s).2.2=0) (h:jQ (lx s).1 s.size=.error z):Says s (.error (z,120)):=by
 unfold Says;rw [if_neg (by simpa using h0),h]
def Qg:List Tk:=[⟨5,⟨#[102,117,110]⟩,0,0⟩,⟨1,⟨#[120]⟩,0,4⟩,⟨6,⟨#[45,62]⟩,0,6⟩,⟨1,⟨#[120]⟩,0,9⟩,⟨6,⟨#[43]⟩,0,11⟩,⟨6,⟨#[40]⟩,0,13⟩,⟨4,⟨#[]⟩,1,14⟩,⟨6,⟨#[42]⟩,0,16⟩,⟨1,⟨#[121]⟩,0,18⟩,⟨6,⟨#[41]⟩,0,19⟩]
def Qh:List Tk:=[⟨5,⟨#[102,117,110]⟩,0,0⟩,⟨1,⟨#[120]⟩,0,4⟩,⟨6,⟨#[45,62]⟩,0,6⟩]
theorem Qi:lx wT=(Qg,0,0):=by kernel_rfl
theorem Qj:lx wU=(Qh,0,0):=by kernel_rfl
theorem Y0:jQ Qg 20=.ok (([],zu),10):=by kernel_rfl
theorem Y1:jQ Qh 8=.error 8:=by kernel_rfl
theorem Y2:(wT.size:Int)=20:=by kernel_rfl
theorem Y3:(wU.size:Int)=8:=by kernel_rfl
theorem Y4:kV 3 [] zu=false:=by kernel_rfl
theorem Y5:pq 256 [] zu=false:=by kernel_rfl
theorem Y6:Says wT (.ok ([],zu)) :=
 have h0:(lx wT).2.2=0:=by rw [Qi]
 have h1:jQ (lx wT).1 wT.size=.ok (([],zu),10):=by rw [Qi,Y2];exact Y0
 @YY wT [] zu 10 3 h0 h1 YX Y4 Y5
theorem Y7:Says wU (.error (8,120)) :=
 have h0:(lx wU).2.2=0:=by rw [Qj]
 have h1:jQ (lx wU).1 wU.size=.error 8:=by rw [Qj,Y3];exact Y1
 @YZ wU 8 h0 h1
end Pz
theorem FO (w:World) (fT:WL w):Calls Tryz.prog 9 #[] w fun e w'=>e=.returned (.bool true)/\Below w.heap.size w w':=by
 have H1:=ae (Bd wT w fT);have H2:=ae (fun (u:World) (hb:Below w.heap.size w u)=>Bd wU u (fT.on hb));clear fT;go_enter Tryz.func9,Tryz.ntmps9;go_wp2_with fail;refine Calls.mono (show Calls _ _ _ _ _ from H1.out) ?_;rintro e u ⟨R,hS,hb,hR⟩;obtain rfl:=Says.one hS Y6;obtain ⟨v,rfl,hpr⟩:=hR;obtain ⟨u0,k0,x0,y0,n0,vu,vz,a0,rfl,hD,hM⟩:=hpr;obtain ⟨q1,q2⟩:=Du hM;have q0:u0.oneCell'=true:=by obtain ⟨oD,cD,rfl,_⟩:=cF hD;rfl
 obtain ⟨d,k1,x1,y1,n1,es1,pE,a1,u1,z1,h0,h1,hrow,_⟩:=hM;obtain ⟨rfl,rfl,rfl,rfl,rfl,rfl,rfl⟩:=Ba h0;injection h1 with h1;simp only [Array.mk.injEq,List.cons.injEq,Value.int.injEq,Value.string.injEq,true_and,and_true] at h1;obtain ⟨rfl,rfl,rfl,rfl,rfl,rfl,rfl⟩:=h1;obtain ⟨g,off,cc,rfl,hel⟩:=Row.some hrow (by simp);have hC:=hel 0 _ rfl;rw [Nat.zero_mul,Nat.add_zero] at hC;obtain ⟨k2,x2,y2,n2,u2,z2,a2,e1,e2,e3,e4,e5,e6,e7,o1,o2,d3,hE⟩:=JV hC;obtain ⟨k3,x3,y3,n3,es3,ps3,a3,u3,z3,h3,h4,_⟩:=hE;obtain ⟨rfl,rfl,rfl,rfl,rfl,rfl,rfl⟩:=Ba h3;injection h4 with h4;simp only [Array.mk.injEq,List.cons.injEq,Value.int.injEq,Value.string.injEq,true_and,and_true] at h4;obtain ⟨rfl,rfl,rfl,rfl,rfl,rfl,rfl⟩:=h4;obtain ⟨W,hW,hth,hbk,hbw⟩:=kW u 29 dG #[u0,.int .i64 3,.string ⟨#[120]⟩,.string e0,.int .i64 0,.slice (some ⟨g,off,none⟩) 1 cc,vz,.int .i64 0] rfl;have HW:=ae hW;have aC:=ae hth;have au:=ae hbk;have bZ:=ae (aB hb hbw);have yO:=ae (H2.out W bZ.out);have iN:=ae (ai hbw e2);have Qk:=ae (ai hbw e7);clear hW hth hbk hbw hb hS H1 H2 hD hrow hel hC e1 e2 e3 e4 e5 e6 e7 o1 o2 h0 h3;go_wp2_with (refine wpList_store_mid rfl 29 (.tmp 1) (.tmp 9) rfl u.heap.size 0 #[u0,.int .i64 3,.string ⟨#[120]⟩,.string e0,.int .i64 0,.slice (some ⟨g,off,none⟩) 1 cc,vz,.int .i64 0] rfl rfl aC.out nO (by simp [Value.oneCell'] at q0 q1 q2 ⊢;exact ⟨q0,q2⟩) ?_;rw [HW.out]);refine Calls.mono (show Calls _ _ _ _ _ from yO.out) ?_;rintro e w2 ⟨R2,jr,hb2,jF⟩;obtain rfl:=Says.one jr Y7;have Y8:e=.returned (.tuple #[.agg dG,.int .i64 8,.int .i64 120]):=jF;subst Y8;obtain ⟨W2,bu,wV,hbk2,Ql⟩:=kW w2 29 dG dG rfl;have HW2:=ae bu;have fW:=ae wV;have hbx:=aB hb2 Ql;have HB2:=ae (aB bZ.out hbx);have hx:=(hbx.block _ (Array.getElem?_eq_some_iff.1 au.out).1).trans au.out;have r1:=ak hx 1 _ rfl;have r5:=ak hx 5 _ rfl;have e2:=ai hbx iN.out;have e7:=ai hbx Qk.out;clear bu wV hbk2 Ql hb2 hbx hx au iN Qk yO jr jF bZ HW aC;go_wp2_with (refine wpList_store_mid rfl 29 (.tmp 4) (.tmp 14) rfl w2.heap.size 0 dG rfl rfl fW.out nO (by simp [Value.oneCell']) ?_;rw [HW2.out]);go_ret;exact ⟨rfl,HB2.out⟩
namespace Pz
theorem Si {B:Nat} {ds:List Value} {t v:Value} {w:World} (h:lD B (ds,t) v w):∃u k x y n vu vz a,v=.agg #[u,.int .i64 k,.string x,.string y,.int .i64 n,vu,vz,.int .i64 a]/\(u.oneCell'=true/\vu.oneCell'=true/\vz.oneCell'=true)/\lD B (ds,t) (.agg #[u,.int .i64 k,.string x,.string y,.int .i64 n,vu,vz,.int .i64 a]) w/\(∃dt,∀c ∈ ds,wN dt c)/\∃d,ji B d w t (.agg #[.int .i64 k,.string x,.string y,.int .i64 n,vu,vz,.int .i64 a]):=by
 have h':=h;obtain ⟨u,k,x,y,n,vu,vz,a,rfl,hD,hM⟩:=h;obtain ⟨q1,q2⟩:=Du hM;have q0:u.oneCell'=true:=by obtain ⟨oD,cD,rfl,_⟩:=cF hD;rfl
 exact ⟨u,k,x,y,n,vu,vz,a,rfl,⟨q0,q1,q2⟩,h',Yn hD,hM⟩
end Pz
namespace Pz
def few:Nat->Value->Prop
 | 0,t=>Fy t/\dE t = []/\gV t = []
 | d+1,t=>Fy t/\(dE t).length<=200010/\(gV t).length<=200010/\(∀x ∈ dE t,few d x)/\(∀x ∈ gV t,few d x)
def Fw (d i:Nat) (es:List Value):Prop:=∀j x,j<i->es[j]?=some x->∃d0,d=d0+1/\few d0 x
theorem Fw.zero (d:Nat) (es:List Value):Fw d 0 es:=fun j x hj=>absurd hj (Nat.not_lt_zero j)
theorem Fw.step {d i:Nat} {es:List Value} {x:Value} (h:Fw d i es) (hx:es[i]?=some x) {d0:Nat} (hd:d=d0+1) (hf:few d0 x):Fw d (i+1) es:=fun j y hj hy=>by
 by_cases hji:j<i
 ·exact h j y hji hy
 ·obtain rfl:j=i:=by omega
  rw [hx] at hy;injection hy with hy;subst hy;exact ⟨d0,hd,hf⟩
theorem Fw.nil (d i:Nat):Fw d i []:=fun j x _ hx=>by simp at hx
theorem Fw.all {d i:Nat} {es:List Value} (h:Fw d i es) (hi:es.length<=i):Fw d es.length es:=fun j x hj hx=>h j x (by omega) hx
end Pz
namespace Pz
def uq (B:Nat) (o:Option Nat) (F:World->Prop) (u:World):Prop:=∀w',(∀k,B<=k->k<u.heap.size->o≠some k->w'.heap[k]?=u.heap[k]?)->F w'
theorem uq.out {B:Nat} {o:Option Nat} {F:World->Prop} {u:World} (h:uq B o F u):F u:=h u fun _ _ _ _=>rfl
theorem uq.on {B:Nat} {o:Option Nat} {F:World->Prop} {u u':World} (h:uq B o F u) (hb:Below u.heap.size u u'):uq B o F u':=fun w' hw=>h w' fun k hB hk ho=>(hw k hB (Nat.lt_of_lt_of_le hk hb.size) ho).trans (hb.block k hk)
def sV (V:Value->Value->World->Prop) (B:Nat) (e:TypeId) (sz:Nat) (u:World) (v:Value) (ts:List Value):Prop :=
 ∃xs,u.ownsRow B e sz v ts.length xs/\∀k t,ts[k]?=some t->∃cs:Array Value,cs.size=sz/\uq B v.ownBlock (V t (.agg cs)) u/\∀j c,cs[j]?=some c->xs[k*sz+j]?=some c
section
variable {V:Value->Value->World->Prop} {B:Nat} {e:TypeId} {sz:Nat} {u u':World} {v v':Value} {ts:List Value} {t:Value}
theorem sV.nil (V:Value->Value->World->Prop) (B:Nat) (e:TypeId) (sz:Nat) (u:World):sV V B e sz u (.slice none 0 0) []:=⟨[],⟨by simp,.inl ⟨rfl,rfl⟩⟩,fun k t h=>(by simp at h)⟩
theorem sV.sl (h:sV V B e sz u v ts):∃o c,v=.slice o ts.length c:=by
 obtain ⟨xs,h1,_⟩:=h;exact Eh h1
theorem sV.on (h:sV V B e sz u v ts) (hb:Below u.heap.size u u'):sV V B e sz u' v ts:=by
 obtain ⟨xs,⟨hl,h1⟩,h3⟩:=h;refine ⟨xs,⟨hl,?_⟩,fun k t hk=>?_⟩
 ·rcases h1 with h1|⟨g,cap,cur,rfl,hB,hg,hr⟩
  ·exact .inl h1
  ·exact .inr ⟨g,cap,cur,rfl,hB,by rw [hb.block g (Array.getElem?_eq_some_iff.1 hg).1];exact hg,hr⟩
 ·obtain ⟨cs,hc,hs',hj⟩:=h3 k t hk;exact ⟨cs,hc,hs'.on hb,hj⟩
theorem sV.app {xs:List Value} {cs:Array Value} (hown:u.ownsRow B e sz v ts.length xs) (hx:∀k t,ts[k]?=some t->∃cs:Array Value,cs.size=sz/\uq B v.ownBlock (V t (.agg cs)) u/\∀j c,cs[j]?=some c->xs[k*sz+j]?=some c)
  (hown':u'.ownsRow B e sz v' (ts.length+1) (xs++cs.toList)) (hg:u.grownBy u' v.ownBlock) (hv:v'.ownBlock=v.ownBlock\/v'.ownBlock=some u.heap.size) (hc:cs.size=sz) (ht:uq B v.ownBlock (V t (.agg cs)) u):sV V B e sz u' v' (ts++[t]):=by
 have hst:∀(F:World->Prop),uq B v.ownBlock F u->uq B v'.ownBlock F u':=fun F hF w' hw=>hF w' fun k hB hk ho=>(hw k hB (Nat.lt_of_lt_of_le hk hg.size) (by
  rcases hv with h|h
  ·rw [h];exact ho
  ·rw [h];intro e;injection e with e;omega)).trans (hg.block k hk fun h=>ho h.symm)
 refine ⟨xs++cs.toList,by simpa using hown',fun k s hk=>?_⟩;by_cases hlt:k<ts.length
 ·rw [List.getElem?_append_left hlt] at hk;obtain ⟨ds,hd,hq,hj⟩:=hx k s hk;refine ⟨ds,hd,hst _ hq,fun j c hc'=>?_⟩
  have:=hj j c hc'
  rw [List.getElem?_append_left (List.getElem?_eq_some_iff.1 this).1];exact this
 ·rw [List.getElem?_append_right (by omega)] at hk
  have hke:k=ts.length:=by
   have:=(List.getElem?_eq_some_iff.1 hk).1;simp at this;omega
  subst hke;simp at hk;subst hk;refine ⟨cs,hc,hst _ ht,fun j c hj=>?_⟩;rw [List.getElem?_append_right (by rw [hown.1];omega),hown.1,Nat.add_sub_cancel_left];simpa using hj
theorem sV.row {F:World->Nat->Nat->Nat->Value->Prop} (hF:∀w d b o t,F w d b o t->F w (d+1) b o t) (h:sV V B e sz u v ts) (hn:ts.length<=9223372036854775807)
  (hV:∀(w:World) (t:Value) (cs:Array Value) (b o:Nat),V t (.agg cs) w->B<=b->(∀j u,cs[j]?=some u->w.cell? ⟨b,o+j,none⟩=some u)->∃d,F w d b o t):∃d,Row sz (F u d) v ts:=by
 obtain ⟨xs,hown,hx⟩:=h;rcases hown.2 with ⟨rfl,h0⟩|⟨g,cap,cur,rfl,hB,hg,hcp,Ea,hcs,htk⟩
 ·exact ⟨0,hn,.inl ⟨List.eq_nil_of_length_eq_zero h0,none,0,rfl⟩⟩
 ·obtain ⟨d,hd⟩:=D5 (ts:=ts) (P:=fun d k t=>F u d g (k*sz) t) (fun d e k t hde hp=>ug (hF u) hde hp) ts.length fun k t _ hk=>by
   obtain ⟨cs,hc,hr,hj⟩:=hx k t hk;refine hV u t cs g (k*sz) hr.out hB fun j c hc'=>ak hg _ c ?_
   have:=hj j c hc'
   rw [<- htk] at this;have h2:=(List.getElem?_eq_some_iff.1 this).1;rw [List.getElem?_take_of_lt (by rw [List.length_take] at h2;omega)] at this;simpa using this
  exact ⟨d,hn,.inr ⟨g,0,cap,rfl,fun k t hk=>by rw [Nat.zero_add];exact hd k t (List.getElem?_eq_some_iff.1 hk).1 hk⟩⟩
end
theorem mJ.sl {B:Nat} {v:Value} {l:List Value} {w:World} (h:mJ B v l w):∃o c,v=.slice o l.length c:=by obtain ⟨d,h⟩:=h;exact Row.len h
theorem kz.sl {B:Nat} {v:Value} {l:List Value} {w:World} (h:kz B v l w):∃o c,v=.slice o l.length c:=by obtain ⟨d,h⟩:=h;exact Row.len h
theorem mf.sl {B:Nat} {v:Value} {l:List Value} {w:World} (h:mf B v l w):∃o c,v=.slice o l.length c:=by obtain ⟨d,h⟩:=h;exact Row.len h
end Pz
end Go.Proofs.YtkdbgopgjbfhbaaGreatDoor
