/- Texts that the claim needs. -/
import Derived.Test.YtcfifbgemfladaaGreatDoorQDPa20
import Derived.Test.YtcfifbgemfladaaGreatDoorQDPa15
import Derived.Deep.CutRange
import Derived.Test.YtcfifbgemfladaaGreatDoorQDPa3
namespace Go.Proofs.YtcfifbgemfladaaGreatDoor
open Go.RowKit au aI Go.Proofs.Tryz
set_option linter.unusedVariables false
set_option maxRecDepth 100000
set_option maxHeartbeats 16000000
namespace aI
def qZ {σ:Type} (sec:Int->rO σ) (ok:Int->Bool) (cd fl:σ->Nat) (s:AH) (en:Nat):Nat->Int->σ->Nat->Option (R σ)
 | 0,_,_,_=>none
 | f+1,last,st,i=>if i<en then
   match nx s en i with
   | .error z=>some (.error z)
   | .ok (id,j)=>if 11<id then some (.error 50) else if id≠0/\¬ last<id then some (.error 50) else if ok id=true then
     match uE (sec id) s st en j with
     | .error z=>some (.error z)
     | .ok (st',m)=>qZ sec ok cd fl s en f (if id=0 then last else id) st' m
    else none
  else some (if cd st=fl st then .ok (st,i) else .error 50)
theorem KQ {σ:Type} {sec:rO σ} {s:AH} {st st':σ} {en i m:Nat} (he:en<=s.size) (h:uE sec s st en i=.ok (st',m)):i<m:=by
 unfold uE at h;obtain ⟨z,j,h1,h2⟩:=pF h;obtain ⟨st2,m2,h3,h4⟩:=pF h2;obtain ⟨hij,_⟩:=tu he h1;by_cases hm:m2=j+z.toNat
 ·rw [AE hm] at h4;cases h4;omega
 rw [AD hm] at h4;cases h4
def Hk (p:Nat) (w:AG):Nat:=match w.cell? ⟨p,1,none⟩ with
 | some (.int _ i)=>i.toNat
 | _=>0
def eG (br p k f:Nat) (o:Option Addr) (cap:Nat):Nat->Value
 | 0=>.pointer (some ⟨p,0,none⟩)
 | 1=>.pointer (some ⟨p,0,none⟩)
 | 2=>.pointer (some ⟨p,13,none⟩)
 | 3=>.int .i64 (k:Int)
 | 4=>.pointer (some ⟨p,0,none⟩)
 | 5=>.pointer (some ⟨p,0,none⟩)
 | 6=>.pointer (some ⟨p,3,none⟩)
 | 7=>.pointer (some ⟨p,5,none⟩)
 | 8=>.slice o f cap
 | 9=>.int .i64 (f:Int)
 | _=>.bool false
structure LS {σ:Type} (w0:AG) (p:Nat) (s:AH) (M:σ->(Nat->Value)->Nat->Nat->AG->Prop) (sec:Int->rO σ) (ok:Int->Bool) (cd fl:σ->Nat) (en br:Nat) (W:AG) (X:R σ) (last:Int) (st:σ) (c:Nat->Value) (k i n:Nat) (wr:AG):Prop where
 rs:RS w0 p s c en k i n wr
 m:M st c k n wr
 but:vn p W wr
 hr:wr.heap[br]?=some (.cells #[.pointer (some ⟨p,0,none⟩)] 77 (0,0))
 run:∃f,qZ sec ok cd fl s en f last st i=some X
 last:0<=last/\last<=11
theorem Bo {w w':AG} (hb:AS w w') {b:Nat} {o:Obj} (h:w.heap[b]?=some o):w'.heap[b]?=some o:=by rw [hb.block b (gX.1 h).1];exact h
theorem Cn {p:Nat} {w w':AG} (hb:But p w w') {b:Nat} (hp:b≠p) {o:Obj} (h:w.heap[b]?=some o):w'.heap[b]?=some o:=by rw [hb.block b (gX.1 h).1 (by simpa using hp)];exact h
theorem Qn {p:Nat} {w w':AG} (hb:vn p w w') {b:Nat} (hp:b≠p) {cs:Array Value} {t:TypeId} {z:Nat × Nat} (ht:t≠55) (h:w.heap[b]?=some (.cells cs t z)):w'.heap[b]?=some (.cells cs t z):=by
 rw [hb.block b (gX.1 h).1 hp (λcur z' e=>by rw [h] at e;injection e with e;injection e with e1 e2 e3;exact ht e2)];exact h
theorem xu {w:AG} {b:Nat} {v:Value} {t:TypeId} (h:w.heap[b]?=some (.cells #[v] t (0,0))):w.cell? ⟨b,0,none⟩=some v:=by unfold World.cell?;rw [h];rfl
theorem LS.cr {σ:Type} {w0:AG} {p:Nat} {s:AH} {M:σ->(Nat->Value)->Nat->Nat->AG->Prop} {sec:Int->rO σ} {ok:Int->Bool} {cd fl:σ->Nat} {en br:Nat} {W:AG} {X:R σ} {last:Int} {st:σ} {c:Nat->Value} {k i n:Nat} {wr:AG}
  (h:LS w0 p s M sec ok cd fl en br W X last st c k i n wr):wr.cell? ⟨br,0,none⟩=some (.pointer (some ⟨p,0,none⟩)):=xu h.hr
theorem LS.on {σ:Type} {w0:AG} {p:Nat} {s:AH} {M:σ->(Nat->Value)->Nat->Nat->AG->Prop} {sec:Int->rO σ} {ok:Int->Bool} {cd fl:σ->Nat} {en br:Nat} {W:AG} {X:R σ} {last:Int} {st:σ} {c:Nat->Value} {k i n:Nat} {wr wr':AG} (hK:FX p M)
  (h:LS w0 p s M sec ok cd fl en br W X last st c k i n wr) (hb:AS wr wr'):LS w0 p s M sec ok cd fl en br W X last st c k i n wr' :=
 ⟨h.rs.on hb,hK _ _ _ _ _ _ h.m (But.of p hb),h.but.trans (But.t (But.of p hb)),Bo hb h.hr,h.run,h.last⟩
section
variable {σ:Type} {sec:Int->rO σ} {ok:Int->Bool} {cd fl:σ->Nat} {s:AH} {en f:Nat} {last:Int} {st:σ} {i:Nat} {X:R σ}
theorem aca (hi:¬ i<en) (h:qZ sec ok cd fl s en f last st i=some X):X=if cd st=fl st then .ok (st,i) else .error 50:=by
 cases f with
 | zero=>cases h
 | succ f=>simp only [qZ,AD hi,gN] at h;exact h.symm
theorem acb (hi:i<en) (h:qZ sec ok cd fl s en f last st i=some X):(11<af.bt s i->X=.error 50)/\(¬ 11<af.bt s i->af.bt s i≠0/\¬ last<af.bt s i->X=.error 50) /\
  (¬ 11<af.bt s i->¬ (af.bt s i≠0/\¬ last<af.bt s i)->ok (af.bt s i)=true/\(∀z,uE (sec (af.bt s i)) s st en (i+1)=.error z->X=.error z) /\
   ∀st' m,uE (sec (af.bt s i)) s st en (i+1)=.ok (st',m)->∃f',qZ sec ok cd fl s en f' (if af.bt s i=0 then last else af.bt s i) st' m=some X):=by
 cases f with
 | zero=>cases h
 | succ f =>
  have hn:nx s en i=.ok (af.bt s i,i+1):=by unfold nx;rw [AE hi]
  simp only [qZ,AE hi,hn] at h;refine ⟨λh1=>?_,λh1 h2=>?_,λh1 h2=>?_⟩
  ·rw [AE h1] at h;exact (Option.some.inj h).symm
  ·rw [AD h1,AE h2] at h;exact (Option.some.inj h).symm
  rw [AD h1,AD h2] at h;by_cases h3:ok (af.bt s i)=true
  ·rw [AE h3] at h;refine ⟨h3,λz hz=>?_,λst' m hm=>?_⟩
   ·rw [hz] at h;exact (Option.some.inj h).symm
   rw [hm] at h;exact ⟨f,h⟩
  rw [AD h3] at h;cases h
end
theorem RS.KS {w0 w:AG} {p:Nat} {s:AH} {c:Nat->Value} {en k i n:Nat} (h:RS w0 p s c en k i n w):Hk p w=i:=by
 unfold Hk;rw [h.cell 1 _ rfl];rfl
end aI
theorem abl {σ:Type} {w0:AG} {p:Nat} {s:AH} {M:σ->(Nat->Value)->Nat->Nat->AG->Prop} (hK:FX p M) {sec:Int->rO σ} {ok:Int->Bool} {cd fl:σ->Nat} (hS:∀id,ok id=true->oJ w0 p s M (sec id) id)
  (hF:∀st c k n w,M st c k n w->k=cd st/\∃o cap,c 2=.slice o (fl st) cap)
  (st:σ) (c:Nat->Value) (en k i n f:Nat) (w:AG) (h:RS w0 p s c en k i n w) (hM:M st c k n w) (X:R σ) (hX:qZ sec ok cd fl s en f 0 st i=some X) :
  Calls prog 23 #[.pointer (some ⟨p,0,none⟩)] w (lY w0 p s M en w X):=by
 have KT:AS w (w.alloc (.cells #[.pointer (some ⟨p,0,none⟩)] 77)):=(AC _ _).alloc (aC _) _;have hlt:=h.lt;have hcr:(w.alloc (.cells #[.pointer (some ⟨p,0,none⟩)] 77)).cell? ⟨w.heap.size,0,none⟩=some (.pointer (some ⟨p,0,none⟩)):=by simp
 have D6:But p w (w.alloc (.cells #[.pointer (some ⟨p,0,none⟩)] 77)):=But.of p KT;have Qo:(w.alloc (.cells #[.pointer (some ⟨p,0,none⟩)] 77)).heap[w.heap.size]?=some (.cells #[.pointer (some ⟨p,0,none⟩)] 77 (0,0)):=mV _ _ rfl;have yo:Hid (LS w0 p s M sec ok cd fl en w.heap.size (w.alloc (.cells #[.pointer (some ⟨p,0,none⟩)] 77)) X 0 st c k i n (w.alloc (.cells #[.pointer (some ⟨p,0,none⟩)] 77))):=aa ⟨h.on KT,hK _ _ _ _ _ _ hM D6,But.t (But.refl _ _),Qo,⟨f,hX⟩,by omega⟩;have acd:=aa D6;have Cu:w.heap.size≠p:=by omega
 have hen:=h.len;have hs0:=h.big;have fin:Hid (∀e w',lY w0 p s M en w X e w'->lY w0 p s M en w X e w'):=aa λ_ _ h=>h;clear h hM hX KT hcr D6 hlt Qo;go_enter func23,ntmps23;go_wp2_with fail;generalize w.alloc (.cells #[.pointer (some ⟨p,0,none⟩)] 77)=W at *;go_loopw [2] (λla wr=>∃(last:Int) (st:σ) (c:Nat->Value) (k i n:Nat),la=.int .i64 last/\Hid (LS w0 p s M sec ok cd fl en w.heap.size W X last st c k i n wr)) (λ_ wr=>en-Hk p wr)
 case atStart=>exact ⟨0,st,c,k,i,n,rfl,yo⟩
 case round =>
  clear yo;obtain ⟨last,st,c,k,i,n,rfl,HL⟩:=hrel;have hat:Hk p wr=i:=HL.out.rs.KS;have Qp:=aa hat;clear hat;have c1:=HL.out.rs.cell 1 _ rfl;have c2:=HL.out.rs.cell 2 _ rfl;have cb:=HL.out.cr;have hla:=HL.out.last;go_wp2_with fail;go_quiet (fail);have nz:=aa (HL.out.on hK (mE wr nq));generalize wr.drewN nq=u1 at *;clear c1 c2 cb HL;have cb:=nz.out.cr;by_cases hi:i<en
  ·have dl:decide ((i:Int)<(en:Int))=true:=ay;have hnx:nx s en i=.ok (af.bt s i,i+1):=by unfold nx;rw [AE hi]
   have HN:=aa (xO w0 p s c en k i n u1 nz.out.rs);rw [hnx] at HN;obtain ⟨f',hrun⟩:=nz.out.run;have HST:=aa (acb hi hrun);have hbt:=af.xL s i;clear hrun hnx;obtain ⟨id,hid⟩:∃id,id=af.bt s i:=⟨_,rfl⟩;rw [<- hid] at HN HST hbt;clear hid;go_wp2_with fail;refine HN.out.mono ?_;rintro e u ⟨⟨v,rfl,hv⟩,h1,h2⟩;have hv:v=.int .i64 id:=hv;subst hv;clear hv;have HX:=aa (And.intro h1 h2);clear h1 h2 HN;have nE:AS u (u.alloc (.cells #[.int .i64 id] 3)):=(AC _ _).alloc (aC _) _;have Dg:(u.alloc (.cells #[.int .i64 id] 3)).cell? ⟨u.heap.size,0,none⟩=some (.int .i64 id):=by simp
   have hb2:But p u1 (u.alloc (.cells #[.int .i64 id] 3)):=HX.out.2.trans (But.of p nE);have hup:u.heap.size≠p:=by have:=HX.out.1.lt;omega
   have HR2:=aa (And.intro (HX.out.1.on nE) (And.intro (hK _ _ _ _ _ _ nz.out.m hb2) (And.intro (IX hb2 Cu nz.out.cr) (And.intro Dg (And.intro hup (And.intro (nz.out.but.trans (But.t hb2)) (Cn hb2 Cu nz.out.hr)))))));have hci:=Dg;by_cases h11:11<id
   ·have d11:decide (id<=11)=false:=aj;go_wp2_with fail;refine (iX _ _).mono ?_;rintro e w' ⟨rfl,rfl⟩;refine ⟨rfl,fin.out _ _ ?_⟩;rw [HST.out.1 h11];exact ⟨rfl,HR2.out.1.below⟩
   have d11:decide (id<=11)=true:=ay;have KU:id<=11:=by omega
   clear nE hb2 Dg;go_wp2_with fail;generalize u.alloc (.cells #[.int .i64 id] 3)=u2 at *;have cb2:=HR2.out.2.2.1;refine (dA _ _).mono ?_;rintro e w' ⟨rfl,rfl⟩;by_cases h0:id=0
   ·have q0:(id != 0)=false:=by simp [h0]
    have h3:=HST.out.2.2 KU (by omega);have hok:=h3.1;have HZ:=aa (M7 hK (hS id hok) st c en k (i+1) n w.heap.size u.heap.size _ HR2.out.1 HR2.out.2.1 HR2.out.2.2.1 HR2.out.2.2.2.1 Cu HR2.out.2.2.2.2.1);generalize Bu:uE (sec id) s st en (i+1)=Y at HZ;go_wp2_with fail;refine HZ.out.mono ?_;intro e w3 hr;cases Y with
    | error z =>
     obtain ⟨rfl,hb⟩:=hr;have Cv:=h3.2.1 z Bu;refine ⟨rfl,fin.out _ _ ?_⟩;rw [Cv];exact ⟨rfl,hb⟩
    | ok vv =>
     obtain ⟨st',m⟩:=vv;obtain ⟨rfl,⟨c',k',n',hr3,yc⟩,hb3⟩:=hr;have hgt:=KQ hen Bu;have ace:=hr3.le;have Ec:Hid (LS w0 p s M sec ok cd fl en w.heap.size W X last st' c' k' m n' w3):=aa ⟨hr3,yc,HR2.out.2.2.2.2.2.1.trans hb3,Qn hb3 Cu (by decide) HR2.out.2.2.2.2.2.2,by have:=h3.2.2 st' m Bu;rwa [AE h0] at this,by omega⟩;have KV:=aa hr3.KS;clear hr3 yc hb3 HZ;go_wp2;go_roundw
     case rel=>exact ⟨_,st',c',k',m,n',rfl,Ec⟩
     case measure=>rw [KV.out,Qp.out];omega
   have q0:(id != 0)=true:=by simp [h0]
   by_cases hl:last<id
   ·have dl2:decide (id > last)=true:=ay;have h3:=HST.out.2.2 KU (by omega);have hok:=h3.1;go_wp2_with fail;refine (dA _ _).mono ?_;rintro e w' ⟨rfl,rfl⟩;have HZ:=aa (M7 hK (hS id hok) st c en k (i+1) n w.heap.size u.heap.size _ HR2.out.1 HR2.out.2.1 HR2.out.2.2.1 HR2.out.2.2.2.1 Cu HR2.out.2.2.2.2.1);generalize Bu:uE (sec id) s st en (i+1)=Y at HZ;go_wp2_with fail;refine HZ.out.mono ?_;intro e w3 hr;cases Y with
    | error z =>
     obtain ⟨rfl,hb⟩:=hr;have Cv:=h3.2.1 z Bu;refine ⟨rfl,fin.out _ _ ?_⟩;rw [Cv];exact ⟨rfl,hb⟩
    | ok vv =>
     obtain ⟨st',m⟩:=vv;obtain ⟨rfl,⟨c',k',n',hr3,yc⟩,hb3⟩:=hr;have hgt:=KQ hen Bu;have ace:=hr3.le;have Ec:Hid (LS w0 p s M sec ok cd fl en w.heap.size W X id st' c' k' m n' w3):=aa ⟨hr3,yc,HR2.out.2.2.2.2.2.1.trans hb3,Qn hb3 Cu (by decide) HR2.out.2.2.2.2.2.2,by have:=h3.2.2 st' m Bu;rwa [AD h0] at this,by omega⟩;have KV:=aa hr3.KS;clear hr3 yc hb3 HZ;go_wp2;go_roundw
     case rel=>exact ⟨_,st',c',k',m,n',rfl,Ec⟩
     case measure=>rw [KV.out,Qp.out];omega
   have dl2:decide (id > last)=false:=aj;go_wp2_with fail;refine (iX _ _).mono ?_;rintro e w' ⟨rfl,rfl⟩;refine ⟨rfl,fin.out _ _ ?_⟩;rw [HST.out.2.1 KU (by omega)];exact ⟨rfl,HR2.out.1.below⟩
  have dl:decide ((i:Int)<(en:Int))=false:=aj;obtain ⟨f',hrun⟩:=nz.out.run;have Cv:=aca hi hrun;obtain ⟨hk,o2,cap2,hc2⟩:=hF _ _ _ _ _ nz.out.m;have c13:=nz.out.rs.cell 13 _ rfl;have c5:u1.cell? ⟨p,5,none⟩=some (c 2):=nz.out.rs.cell 5 _ rfl;rw [hc2] at c5;have Qq:=aa Cv;have HF:=aa (And.intro nz.out.rs (And.intro nz.out.m nz.out.but));clear hrun Cv hc2;subst hk;by_cases hcf:cd st=fl st
  ·have dq:((cd st:Int)==(fl st:Int))=true:=by simp [hcf]
   go_wp2_with fail;go_quiet (first|(go_at_call 21;exact Calls.quiet_of_same (dA _ _)))
   go_wp2;go_end0;refine fin.out _ _ ?_;rw [Qq.out,AE hcf];have hb:=mE u1 nq;exact ⟨rfl,⟨_,_,_,HF.out.1.on hb,hK _ _ _ _ _ _ HF.out.2.1 (But.of p hb)⟩,(But.t acd.out).trans (HF.out.2.2.trans (But.t (But.of p hb)))⟩
  have dq:((cd st:Int)==(fl st:Int))=false:=by simp;omega
  go_wp2_with fail;refine ai.oQ 11 (λi=>28+i) (λj v _=>v=eG w.heap.size p (cd st) (fl st) o2 cap2 j) (by kernel_rfl) (by kernel_rfl) (λi j h1 h2 h=>by have h':28+i=28+j:=h;omega) (ai.lJ (size:=40) (by kernel_rfl)) (λi v w w' _ h _=>h) ?hstep ?cO
  case hstep =>
   intro j o a u hj ho hF2 hB hd;have f1:a.tmps[1]?.getD undef=.pointer (some ⟨w.heap.size,0,none⟩):=ai.aB (hF2.eval 1 (λi hi=>by show 28+i≠1;omega));have db:=ak hB cb;have d13:=ak hB c13;have d5:=ak hB c5;have hcase:j=0\/j=1\/j=2\/j=3\/j=4\/j=5\/j=6\/j=7\/j=8\/j=9\/j=10:=by omega
   clear hj cb c13 c5;rcases hcase with rfl|rfl|rfl|rfl|rfl|rfl|rfl|rfl|rfl|rfl|rfl
   all_goals (simp only [gz,gU,gV,gN] at ho;subst ho;refine ai.aO λK hK=>?_)
   ·go_simp;exact hK _ _ ⟨_,rfl,AC _ _,rfl⟩
   ·have q:a.tmps[28]?.getD undef=.pointer (some ⟨p,0,none⟩):=ai.aB (hd 0 (by decide));go_simp;exact hK _ _ ⟨_,rfl,AC _ _,rfl⟩
   ·have q:a.tmps[29]?.getD undef=.pointer (some ⟨p,0,none⟩):=ai.aB (hd 1 (by decide));go_simp;exact hK _ _ ⟨_,rfl,AC _ _,rfl⟩
   ·have q:a.tmps[30]?.getD undef=.pointer (some ⟨p,13,none⟩):=ai.aB (hd 2 (by decide));go_simp;exact hK _ _ ⟨_,rfl,AC _ _,rfl⟩
   ·go_simp;exact hK _ _ ⟨_,rfl,AC _ _,rfl⟩
   ·have q:a.tmps[32]?.getD undef=.pointer (some ⟨p,0,none⟩):=ai.aB (hd 4 (by decide));go_simp;exact hK _ _ ⟨_,rfl,AC _ _,rfl⟩
   ·have q:a.tmps[33]?.getD undef=.pointer (some ⟨p,0,none⟩):=ai.aB (hd 5 (by decide));go_simp;exact hK _ _ ⟨_,rfl,AC _ _,rfl⟩
   ·have q:a.tmps[34]?.getD undef=.pointer (some ⟨p,3,none⟩):=ai.aB (hd 6 (by decide));go_simp;exact hK _ _ ⟨_,rfl,AC _ _,rfl⟩
   ·have q:a.tmps[35]?.getD undef=.pointer (some ⟨p,5,none⟩):=ai.aB (hd 7 (by decide));go_simp;exact hK _ _ ⟨_,rfl,AC _ _,rfl⟩
   ·have q:a.tmps[36]?.getD undef=.slice o2 (fl st) cap2:=ai.aB (hd 8 (by decide));go_simp;exact hK _ _ ⟨_,rfl,AC _ _,rfl⟩
   have q:a.tmps[31]?.getD undef=.int .i64 (cd st:Int):=ai.aB (hd 3 (by decide));have q2:a.tmps[37]?.getD undef=.int .i64 (fl st:Int):=ai.aB (hd 9 (by decide));go_simp;exact hK _ _ ⟨_,rfl,AC _ _,rfl⟩
  case cO =>
   intro a u hF2 hB hG;have q:a.tmps[38]?.getD undef=.bool false:=ai.aB (hG 10 (by decide));simp only [iw,gP];refine wpList_plain rfl λK hK=>?_;go_simp;refine (iX _ _).mono ?_;rintro e u2 ⟨rfl,rfl⟩;refine ⟨hF2.defers,fin.out _ _ ?_⟩;rw [Qq.out,AD hcf];exact ⟨rfl,HF.out.1.below.trans (hB.mono HF.out.1.below.size)⟩
theorem adr (d:Nat) (IH:Cb d):Cb (d+1):=by
 intro w0 p s c en k i n w dep h hn hd yf;have hpw:=h.lt;have hlen:=h.len;obtain ⟨sub,hsub⟩:∃sub,sub=jX s en d (dep+1):=⟨_,rfl⟩;have hfw:Fj en sub:=by rw [hsub];exact Sz hlen d (dep+1)
 have hnb:Nb sub:=by rw [hsub];exact Gt s en d (dep+1)
 have e:jX s en (d+1) dep i n=jN sub s en dep (en-i+1) i n:=by rw [hsub];rfl
 rw [e];obtain ⟨R,hR⟩:∃R,R=jN sub s en dep (en-i+1) i n:=⟨_,rfl⟩;rw [<- hR];have HR:=aa hR;have H:=aa h
 have HI:Hid (∀(j n:Nat) (u:AG) (op:Int),RS w0 p s c en k j n u->n<=65536->dep<=65->Calls prog 125 #[.pointer (some ⟨p,0,none⟩),.int .i64 op,.int .i64 dep] u (uI w0 p s c en k (oP u.heap.size d) u (pq sub s en dep op j n))):=aa (λj n u op hu hn hp=>by
  rw [hsub];exact ads w0 p s c en k j n u hu hn op dep hp IH (by omega))
 have HFW:=aa hfw;have HNB:=aa hnb;clear e hR h hsub hfw hnb IH;go_enter func114,ntmps114;go_wp2_with fail;go_loopw [4] (λt wr=>∃(l:List (Ins (IL d))) (ps:List (Pc d)) (iq nq f:Nat),(∃o c,t=.slice o l.length c)/\nq<=65536/\en-iq+1<=f/\l.length<=iq/\Hid (R=ug l (jN sub s en dep f iq nq))/\Hid (RS w0 p s c en k iq nq wr)/\Hid (But p w wr)/\Hid (ps.map (·.1)=l)/\Hid (wr.ownsRow w.heap.size 59 7 t l.length (xx ps))/\Hid (∀q ∈ ps,yz wr (Since w.heap.size wr t.ownBlock) q)) (λ_ wr=>en-(RowKit.intOf ((wr.cell? ⟨p,1,none⟩).getD (.int .i64 0))).toNat)
 case atStart=>exact ⟨[],[],i,n,en-i+1,⟨none,0,rfl⟩,hn,aC _,by simp,aa (by rw [HR.out,adt]),H,aa (But.refl p w),aa rfl,aa (World.ownsRow_nil _ _ _ _),aa (λq hq=>by cases hq)⟩
 case round =>
  obtain ⟨l,ps,iq,nq,f,⟨oT,cT,rfl⟩,hnq,hf,hll,HP,HS,HB,HM,HO,HK⟩:=hrel;obtain ⟨f',rfl⟩:∃f',f=f'+1:=⟨f-1,by omega⟩;have hbig:=HS.out.big;have hle:=HS.out.le;have hN:=xO w0 p s c en k iq nq wr HS.out;cases hx:nx s en iq with
  | error z =>
   rw [hx] at hN;have HN:=aa hN;have HZ:Hid (R=.error z):=aa (by rw [HP.out];exact adu hx);clear hN hx HP HO HK HM;go_wp2_with fail;refine HN.out.mono ?_;rintro e w1 ⟨rfl,hb⟩;exact ⟨rfl,by rw [HZ.out];exact ⟨rfl,hb⟩⟩
  | ok v =>
   obtain ⟨op,j⟩:=v;have hnx:=Fp hx;rw [hx] at hN;have HN:=aa hN;clear hN;by_cases ho:op=11\/op=5
   ·have HZ:Hid (R=.ok ((l,op),j,nq)):=aa (by rw [HP.out];exact adv hx ho);have HV:Hid (az wr (Since w.heap.size wr none) (d+1) (.slice oT l.length cT) l):=aa (acJ l ps HM.out (by omega) (by rw [show ps.length=l.length by rw [<- HM.out,jS]];exact HO.out) HK.out);have hq:(op==11)=true\/((op==11)=false/\(op==5)=true):=by rcases ho with rfl|rfl<;>decide
    clear ho hx HP HO HK HM hnx hf;generalize l.length=nl at *;rcases hq with q1|⟨q1,q2⟩
    all_goals
     go_wp2_with fail;refine HN.out.mono ?_;rintro e w1 ⟨⟨v,rfl,hv⟩,h1,h2⟩;have hv:v=.int .i64 op:=hv;subst hv;have HF:=aa (⟨h1,HB.out.trans h2⟩:_/\_);have HV2:=aa (az.keep (zo hpw h2) (d+1) _ _ HV.out);clear h1 h2 HN HV;go_wp2;go_ret2;rw [HZ.out];exact ⟨⟨_,rfl,_,_,_,rfl,HV2.out⟩,HF.out.1,HF.out.2⟩
   have q1:(op==11)=false:=ag (by omega);have q2:(op==5)=false:=ag (by omega);cases hr:pq sub s en dep op j nq with
   | error z =>
    have HZ:Hid (R=.error z):=aa (by rw [HP.out];exact adw hx ho hr);have Fq:=aa hr;clear ho hx hr HP HO HK HM hnx hf hll;generalize l.length=nl at *;go_wp2_with fail;refine HN.out.mono ?_;rintro e w1 ⟨⟨v,rfl,hv⟩,h1,h2⟩;have hv:v=.int .i64 op:=hv;subst hv;have hC:=HI.out j nq w1 op h1 hnq yf;rw [Fq.out] at hC;have HC:=aa hC;clear h1 h2 HN hC Fq;go_wp2_with fail;refine HC.out.mono ?_;rintro e w2 ⟨rfl,hb⟩;exact ⟨rfl,by rw [HZ.out];exact ⟨rfl,hb⟩⟩
   | ok v =>
    obtain ⟨x,m,n2⟩:=v;have hro:=SA hlen HFW.out (by omega) hr;have fV:n2<=65536:=SB HNB.out _ _ _ _ _ hnq hr;have HZ:Hid (R=ug (l++[x]) (jN sub s en dep f' m n2)):=aa (by rw [HP.out];exact adx hx ho hr);have Fq:=aa hr;clear ho hx hr HP;generalize hnl:l.length=nl at *;go_wp2_with fail;refine HN.out.mono ?_;rintro e w1 ⟨⟨v,rfl,hv⟩,h1,h2⟩;have hv:v=.int .i64 op:=hv;subst hv;have hC:=HI.out j nq w1 op h1 hnq yf;rw [Fq.out] at hC;have HC:=aa hC;have dJ:=aa (qV HO.out hpw h2);have bJ:=aa (λq hq=>(HK.out q hq).keep (wC hpw h2));have HB1:=aa (HB.out.trans h2);have jm:Hid (∀q',(Value.slice oT nl cT).ownBlock=some q'->w.heap.size<=q'/\q'<w1.heap.size):=aa (λq' hq'=>dJ.out.lt q' hq');have bh:Hid (w.heap.size<=w1.heap.size):=aa (eU HB.out.size h2.size);clear h1 h2 HN hC Fq HO HK HB;go_wp2_with fail;refine HC.out.mono ?_;rintro e w2 ⟨⟨v,rfl,hv⟩,h1,h2⟩;obtain ⟨o4,n4,k4,o5,n5,k5,o6,n6,k6,rfl,lZ,eC,ic⟩:=hv;have hup:=xz (B:=w.heap.size) (B2:=w1.heap.size) (u:=w2) (row:=(Value.slice oT nl cT).ownBlock) bh.out (λq' hq'=>(jm.out q' hq').2);have jo:Hid (yz w2 (Since w.heap.size w2 (Value.slice oT nl cT).ownBlock) (Bw x (.slice o4 n4 k4) (.slice o5 n5 k5) (.slice o6 n6 k6))):=aa ⟨lZ.keep hup,az.keep hup _ _ _ eC,az.keep hup _ _ _ ic⟩;have bC:=aa ((qV dJ.out hpw h2).alloc (.cells #[.int .i64 x.op,.int .i64 x.a,.int .i64 x.b,.int .i64 x.n,.slice o4 n4 k4,.slice o5 n5 k5,.slice o6 n6 k6] 59));have cH:=aa (ady w2 x (.slice o4 n4 k4) (.slice o5 n5 k5) (.slice o6 n6 k6));have bK:=aa (λq hq=>(bJ.out q hq).keep (wC hpw h2));have HB2:=aa ((HB1.out.trans h2).trans (But.of p (aQ w2 (.cells #[.int .i64 x.op,.int .i64 x.a,.int .i64 x.b,.int .i64 x.n,.slice o4 n4 k4,.slice o5 n5 k5,.slice o6 n6 k6] 59))));have aM:=aa (h1.on (aQ w2 (.cells #[.int .i64 x.op,.int .i64 x.a,.int .i64 x.b,.int .i64 x.n,.slice o4 n4 k4,.slice o5 n5 k5,.slice o6 n6 k6] 59)));have jr:=aa (aQ w2 (.cells #[.int .i64 x.op,.int .i64 x.a,.int .i64 x.b,.int .i64 x.n,.slice o4 n4 k4,.slice o5 n5 k5,.slice o6 n6 k6] 59));have iA:Hid (w.heap.size<=w2.heap.size):=aa (eU bh.out h2.size);clear h1 h2 lZ eC ic hup HC dJ bJ HB1 jm bh;obtain ⟨i1,hi1,hy0,hy1,hy2⟩:=info_parts acK;go_wp2_with (first|(at_builtin;refine tO rfl _ _ 53 rfl w.heap.size 59 i1 _ 7 104 underlying53 hi1 hy0 hy1 hy2 rfl (by decide) _ _ _ rfl bC.out (some ⟨w2.heap.size,0,none⟩) 1 1 (sJ (Bw x (.slice o4 n4 k4) (.slice o5 n5 k5) (.slice o6 n6 k6))) rfl ?c6 ?c0 ?c1 ?c2 ?c3 ?c4 ?c5 ?_))
    case c6=>intro h;cases h
    case c0=>rfl
    case c1=>exact λad h=>by injection h with h;subst h;exact cH.out
    case c2=>exact acM _ rfl rfl rfl
    case c3=>unfold maxLen;omega
    case c4=>omega
    case c5=>have:=iA.out;simp;omega
    intro v9 w9 dO cE iz;have dP:∀q',(Value.slice oT nl cT).ownBlock=some q'->w.heap.size<=q':=λq' hq'=>(bC.out.lt q' hq').1;have jZ:=aa (aM.out.grown cE (λq' hq'=>jg hpw (dP q' hq')));have jw:=aa (But.grown (p:=p) HB2.out cE dP);have kQ:Hid (w9.ownsRow w.heap.size 59 7 v9 (nl+1) (xx (ps++[Bw x (.slice o4 n4 k4) (.slice o5 n5 k5) (.slice o6 n6 k6)]))):=aa (by rw [acL];exact dO)
    have oC:Hid (∀q ∈ ps++[Bw x (.slice o4 n4 k4) (.slice o5 n5 k5) (.slice o6 n6 k6)],yz w9 (Since w.heap.size w9 v9.ownBlock) q):=aa (λq hq=>by
     have key:∀q:Pc d,yz w2 (Since w.heap.size w2 (Value.slice oT nl cT).ownBlock) q->yz w9 (Since w.heap.size w9 v9.ownBlock) q:=λq h=>(h.keep (pO jr.out)).keep (xh cE (by simpa using iz));rcases List.mem_append.1 hq with hq|hq
     ·exact key q (bK.out q hq)
     rw [List.mem_singleton.1 hq];exact key _ jo.out)
    have HM9:Hid ((ps++[Bw x (.slice o4 n4 k4) (.slice o5 n5 k5) (.slice o6 n6 k6)]).map (·.1)=l++[x]):=aa (by rw [qw,HM.out];rfl);have hsl:=rU dO;have Be:Hid ((l++[x]).length=nl+1):=aa (by rw [aT,hnl];rfl);have hc9:=jZ.out.cell 1 _ rfl;have hcr:=HS.out.cell 1 _ rfl;clear dO cE iz dP bC cH HB2 aM bK jo jr;obtain ⟨oN,cN,rfl⟩:=hsl;go_wp2;go_roundw
    case rel=>exact ⟨l++[x],_,m,n2,f',⟨oN,cN,by rw [Be.out]⟩,fV,by omega,by rw [Be.out];omega,HZ,jZ,jw,HM9,by rw [Be.out];exact kQ,oC⟩
    case measure=>rw [hc9,hcr];simp [RowKit.intOf];omega
theorem P9:∀d,Cb d
 | 0=>adz
 | d+1=>adr d (P9 d)
namespace aI
def vIL (B d:Nat) (a:IL d) (v:Value) (w:AG):Prop:=∃o n k,v=.slice o n k/\az w (Since B w none) d (.slice o n k) a
end aI
theorem abf (w0:AG) (p:Nat) (s:AH) (c:Nat->Value) (en k i n:Nat) (w:AG) (h:RS w0 p s c en k i n w) (hn:n<=65536) :
  Calls prog 103 #[.pointer (some ⟨p,0,none⟩)] w (uI w0 p s c en k (vIL w.heap.size 81) w (wh s en i n)):=by
 have hC:=P9 81 w0 p s c en k i n w 0 h hn (by omega) (by omega);unfold wh;cases hx:jX s en 81 0 i n with
 | error z =>
  rw [hx] at hC;have HC:=aa hC;rw [JE];clear hC hx h;go_enter func103,ntmps103;go_wp2_with fail;refine HC.out.mono ?_;rintro e w1 ⟨rfl,hb⟩;exact ⟨rfl,rfl,hb⟩
 | ok v =>
  obtain ⟨⟨l,t⟩,j,m⟩:=v;have xF:t=5\/t=11:=JF s en 81 0 _ _ _ _ _ hx;rw [hx] at hC;have HC:=aa hC;rw [JG];dsimp only;clear hC hx h;rcases xF with rfl|rfl
  ·rw [AD (by decide)];go_enter func103,ntmps103;go_wp2_with fail;refine HC.out.mono ?_;rintro e w1 ⟨⟨v,rfl,o,nn,kk,hv,hA⟩,h1,h2⟩;have hv:v=.tuple #[.slice o nn kk,.int .i64 5]:=hv;subst hv;have HF:=aa h1.below;clear h1 h2 hA HC;go_wp2_with fail;refine (iX _ _).mono ?_;rintro e u ⟨rfl,rfl⟩;exact ⟨rfl,rfl,HF.out⟩
  rw [AE rfl];go_enter func103,ntmps103;go_wp2_with fail;refine HC.out.mono ?_;rintro e w1 ⟨⟨v,rfl,o,nn,kk,hv,hA⟩,h1,h2⟩;have hv:v=.tuple #[.slice o nn kk,.int .i64 11]:=hv;subst hv;have HF:=aa (⟨h1,h2,hA⟩:_/\_/\_);clear h1 h2 hA HC;go_wp2_with fail;refine (dA _ _).mono ?_;rintro e u ⟨rfl,rfl⟩;go_wp2;go_ret;exact ⟨⟨_,rfl,_,_,_,rfl,HF.out.2.2⟩,HF.out.1,HF.out.2.1⟩
theorem Wv (w:AG):(Instr.typeAssert .nilIface 20 43 true).run prog w=.ok (.tuple #[.int .i64 0,.bool false]) w:=by
 kernel_rfl
theorem KD {w:AG} {a:Addr} {b j:Nat} {v:Value} (h:a.block≠b):(w.setCell ⟨b,j,none⟩ v).cell? a=w.cell? a:=World.cell?_of_block (Below.heap_setCell _ _ _ _ h)
end Go.Proofs.YtcfifbgemfladaaGreatDoor
namespace Go.Proofs.YtcfifbgemfladaaGreatDoor
open Go.RowKit au
set_option linter.unusedVariables false
namespace ai
section
variable {P:Program} {ops:Array Oper} {Q:Exit->Act->AG->Prop} {id:Nat} {a0:Act} {w0:AG}
def LY (ops:Array Oper) (a0:Act) (n:Nat) (dst:Nat->Nat) (K:AG->Prop) (R:Nat->AG->Prop) (G:Nat->Value->AG->Prop) (L:Array Bool) (a:Act) (w:AG):Prop :=
 (∀k,n<=k->L.getD k false=false)/\Fr a0 dst n a/\K w/\(∀i,i<n->L.getD i false=false->R i w)/\∀i,i<n->L.getD i false=true->G i (a.eval (.tmp (dst i))) w
theorem CS (n:Nat) (dst:Nat->Nat) (fp:Nat->Option Nat) (K:AG->Prop) (R:Nat->AG->Prop) (G:Nat->Value->AG->Prop) (hm:P.follows .mixedOrders=true) (hT:CF ops n=true)
  (hinj:∀i j,i<n->j<n->dst i=dst j->i=j)
  (hdst:∀i,i<n->∃o,ops[i]?=some o/\o.dst=some (dst i)/\o.guard=none/\dst i<a0.tmps.size)
  (tQ:∀i k v w w',i<n->k<n->i≠k->K w->G i v w->w.grownBy w' (fp k)->G i v w')
  (hres:∀i k w w',i<n->k<n->i≠k->R i w->w.grownBy w' (fp k)->R i w')
  (hK:∀k w w',k<n->K w->w.grownBy w' (fp k)->K w')
  (hstep:∀i o a w,i<n->ops[i]?=some o->Fr a0 dst n a->K w->R i w->(∀j ∈ deps o,G j (a.eval (.tmp (dst j))) w)->o.wp P a w (λa' w'=>∃v,a'=a.put o.dst v/\w.grownBy w' (fp i)/\G i v w') Q)
  (cO:∀a w,Fr a0 dst n a->K w->(∀i,i<n->G i (a.eval (.tmp (dst i))) w)->wpList P ops Q (ops.toList.drop n) a w)
  (wG:K { w0 with drawn:=w0.drawn+1 }) (jT:∀i,i<n->R i { w0 with drawn:=w0.drawn+1 }) :
  (Code.region id ops true).wp P Q a0 w0:=by
 have uf:=hT;unfold CF at uf;rw [bH,dN,decide_eq_true_eq] at uf;obtain ⟨hn,uf⟩:=uf
 have hlow:∀i,i<ops.size->∀j ∈ pz ops i,j<i:=λi hi j hj=>by
  have:=uf i (List.mem_range.2 hi)
  rw [bH,dN] at this;exact of_decide_eq_true (this.1 j hj)
 have hbig:∀(L:Array Bool) i,n<=i->i<ops.size->Closed ops L->(∀j ∈ pz ops i,L.getD j false=true)->∀j,j<i->L.getD j false=true:=λL i hi hs hc hd j hj=>by
  have:=uf i (List.mem_range.2 hs)
  rw [bH,Bool.or_eq_true,decide_eq_true_eq] at this;rcases this.2 with h|h
  ·omega
  have hjm:j ∈ CE ops [i] i:=by simpa using (dN.1 h) j (List.mem_range.2 hj)
  rcases Ll hc hd i [i] (λm hm=>.inl (List.mem_singleton.1 hm)) j hjm with h|h
  ·omega
  exact h
 refine Ka (λL a w=>L.size=ops.size/\Closed ops L/\(LY ops a0 n dst K R G L a w\/Behind P ops Q n L a w)) hm ?_ ?_ ?_
 ·rintro L i a w hi ⟨hsz,hc,Lp⟩;obtain ⟨vS,o,ho,hd⟩:=Kb hi;obtain ⟨qX,vT⟩:=Kc vS;have hd':∀j ∈ pz ops i,L.getD j false=true:=by rw [Bj ho];exact hd
  have hsz':(L.setIfInBounds i true).size=ops.size:=by rw [Array.size_setIfInBounds,hsz]
  have hc':Closed ops (L.setIfInBounds i true):=λm hm j hj=>by
   rw [tV L i _ qX] at hm ⊢;split
   ·rfl
   by_cases he:m=i
   ·subst he;exact hd' j hj
   rw [AD he] at hm;exact hc m hm j hj
  have low:∀k,n<=k->(∀j,j<k->L.getD j false=true)->(∀j,k<=j->L.getD j false=false)->n<=i->i=k:=λk hnk hk1 hk2 hni=>by
   have h1:=hbig L i hni (by omega) hc hd';rcases Nat.lt_trichotomy i k with h|h|h
   ·rw [hk1 i h] at vT;cases vT
   ·exact h
   have:=h1 k h;rw [hk2 k (aC _)] at this;cases this
  have Fg:∀k,k=i->n<=k->(∀j,j<k->L.getD j false=true)->(∀j,k<=j->L.getD j false=false)->wpList P ops Q (ops.toList.drop k) a w->wpOp P ops Q i (λa w=>(L.setIfInBounds i true).size=ops.size/\Closed ops (L.setIfInBounds i true)/\(LY ops a0 n dst K R G (L.setIfInBounds i true) a w\/Behind P ops Q n (L.setIfInBounds i true) a w)) a w:=by
   rintro k rfl hnk hk1 hk2 hwp;have hks:k<ops.size:=by omega
   have DT:ops.toList.drop k=o :: ops.toList.drop (k+1):=by
    rw [nN (by simpa using hks)];congr 1
    have:=wU hks
    rw [ho] at this;simpa using (Option.some.inj this).symm
   rw [DT] at hwp
   have up:∀a w,wpList P ops Q (ops.toList.drop (k+1)) a w->(L.setIfInBounds k true).size=ops.size/\Closed ops (L.setIfInBounds k true)/\(LY ops a0 n dst K R G (L.setIfInBounds k true) a w\/Behind P ops Q n (L.setIfInBounds k true) a w):=λa w h =>
    ⟨hsz',hc',.inr ⟨k+1,by omega,λj hj=>by
     rw [tV L k _ qX];split
     ·rfl
     ·exact hk1 j (by omega),λj hj=>by
     rw [tV L k _ qX,AD (by omega)];exact hk2 j (by omega),h⟩⟩
   unfold wpOp;rw [ho];unfold wpList at hwp;show ite _ _ _;split
   ·rename_i hw;rw [AE hw] at hwp;exact hwp.imp (Oper.wp_mono up) (λh=>h)
   rename_i hw;rw [AD hw] at hwp;exact up _ _ hwp
  rcases Lp with ⟨hk,hF,hB,hR,hG⟩|⟨k,hnk,hk1,hk2,hwp⟩
  ·by_cases hin:i<n
   ·obtain ⟨o',ho',vU,hog,hos⟩:=hdst i hin
    have:o'=o:=by rw [ho] at ho';exact (Option.some.inj ho').symm
    subst this;have hs:=hstep i o' a w hin ho hF hB (hR i hin vT) (λj hj=>hG j (by have:=hlow i (by omega) j (by rw [Bj ho];exact hj);omega) (hd j hj));unfold wpOp;rw [ho];show ite _ _ _;rw [AE (by simp [Region.wanted,hog])];refine .inl (Oper.wp_mono ?_ hs);rintro a' w' ⟨v,rfl,hBw,Bl⟩;have Bm:dst i<a.tmps.size:=by rw [hF.size];exact hos
    refine ⟨hsz',hc',.inl ⟨λk hnk=>?_,by rw [vU];exact hF.put hin v,?_,λj hj tT=>?_,λj hj tT=>?_⟩⟩
    ·rw [tV L i _ qX,AD (by omega)];exact hk k hnk
    ·exact hK i w w' hin hB hBw
    ·by_cases he:j=i
     ·subst he;rw [tV L j _ qX,AE rfl] at tT;cases tT
     rw [tV L i _ qX,AD he] at tT;exact hres j i w w' hj hin he (hR j hj tT) hBw
    rw [vU];by_cases he:j=i
    ·subst he;rw [GM v Bm];exact Bl
    rw [tV L i _ qX,AD he] at tT;rw [GN v (λe=>he (hinj i j hin hj e).symm)];exact tQ j i _ w w' hj hin he hB (hG j hj tT) hBw
   have h1:=hbig L i (by omega) (by omega) hc hd'
   have Lr:n=i:=by
    rcases Nat.lt_or_ge n i with h|h
    ·have:=h1 n h;rw [hk n (aC _)] at this;cases this
    omega
   refine Fg n Lr (aC _) (λj hj=>h1 j (by omega)) hk (cO a w hF hB λj hj=>hG j hj (h1 j (by omega)))
  rcases Nat.lt_or_ge i n with h|h
  ·rw [hk1 i (by omega)] at vT;cases vT
  exact Fg k (low k hnk hk1 hk2 h).symm hnk hk1 hk2 hwp
 ·rintro L a w hr ⟨hsz,hc,⟨hk,_⟩|⟨k,hnk,hk1,hk2,hwp⟩⟩
  ·have:=Hq hT hsz hr n hn
   rw [hk n (aC _)] at this;cases this
  have:ops.size<=k:=by
   rcases Nat.lt_or_ge k ops.size with h|h
   ·have:=Hq hT hsz hr k h
    rw [hk2 k (aC _)] at this;cases this
   exact h
  rw [BJ (by simpa using this)] at hwp;exact hwp
 have hf:∀k,(Array.replicate ops.size false).getD k false=false:=λk=>by
  simp [Array.getD]
 refine ⟨by simp,λi hi=>?_,.inl ⟨λk _=>hf k,⟨rfl,rfl,λ_ _=>rfl⟩,wG,λi hi _=>jT i hi,λi _ hL=>?_⟩⟩
 ·rw [hf] at hi;cases hi
 rw [hf] at hL;cases hL
end
end ai
end Go.Proofs.YtcfifbgemfladaaGreatDoor
