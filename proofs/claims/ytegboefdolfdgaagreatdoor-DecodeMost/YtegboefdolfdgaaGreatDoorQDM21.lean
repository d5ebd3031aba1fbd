/- Texts that the claim needs. -/
import Derived.Test.YtegboefdolfdgaaGreatDoorQDM20
import Derived.Test.YtegboefdolfdgaaGreatDoorQDM15
import Derived.Deep.CutRange
import Derived.Deep.MidRow
namespace Go.Proofs.YtegboefdolfdgaaGreatDoor
open Go.RowKit aA ai
set_option linter.unusedVariables false
set_option maxRecDepth 100000
set_option maxHeartbeats 16000000
namespace ai
def lg {σ:Type} (sec:Int->mV σ) (ok:Int->Bool) (cd fl:σ->Nat) (s:ByteArray) (en:Nat):Nat->Int->σ->Nat->Option (R σ)
 | 0,_,_,_=>none
 | f+1,last,st,i=>if i<en then
   match nx s en i with
   | .error z=>some (.error z)
   | .ok (id,j)=>if 11<id then some (.error 50) else if id≠0/\¬ last<id then some (.error 50) else if ok id=true then
     match dZ (sec id) s st en j with
     | .error z=>some (.error z)
     | .ok (st',m)=>lg sec ok cd fl s en f (if id=0 then last else id) st' m
    else none
  else some (if cd st=fl st then .ok (st,i) else .error 50)
theorem vK {σ:Type} {sec:mV σ} {s:ByteArray} {st st':σ} {en i m:Nat} (he:en<=s.size) (h:dZ sec s st en i=.ok (st',m)):i<m:=by
 unfold dZ at h;obtain ⟨z,j,h1,h2⟩:=fJ h;obtain ⟨st2,m2,h3,h4⟩:=fJ h2;obtain ⟨hij,_⟩:=iP he h1;by_cases hm:m2=j+z.toNat
 ·rw [if_pos hm] at h4;cases h4;omega
 ·rw [if_neg hm] at h4;cases h4
def rL (p:Nat) (w:World):Nat:=match w.cell? ⟨p,1,none⟩ with
 | some (.int _ i)=>i.toNat
 | _=>0
def eG (br p k f:Nat) (o:Option Addr) (cap:Nat):Nat->Value
 | 0=>.pointer (some ⟨p,0,none⟩)
 | 1=>.pointer (some ⟨p,0,none⟩)
 | 2=>.pointer (some ⟨p,13,none⟩)
 | 3=>.int .i64 (k:Int)
 | 4=>.pointer (some ⟨p,0,none⟩)
 | 5=>.pointer (some ⟨p,0,none⟩)
 | 6=>.pointer (some ⟨p,3,none⟩)
 | 7=>.pointer (some ⟨p,5,none⟩)
 | 8=>.slice o f cap
 | 9=>.int .i64 (f:Int)
 | _=>.bool false
structure LS {σ:Type} (w0:World) (p:Nat) (s:ByteArray) (M:σ->(Nat->Value)->Nat->Nat->World->Prop) (sec:Int->mV σ) (ok:Int->Bool) (cd fl:σ->Nat) (en br:Nat) (W:World) (X:R σ) (last:Int) (st:σ) (c:Nat->Value) (k i n:Nat) (wr:World):Prop where
 rs:RS w0 p s c en k i n wr
 m:M st c k n wr
 but:oQ p W wr
 hr:wr.heap[br]?=some (.cells #[.pointer (some ⟨p,0,none⟩)] 48 (0,0))
 run:∃f,lg sec ok cd fl s en f last st i=some X
 last:0<=last/\last<=11
theorem vH {w w':World} (hb:Below w.heap.size w w') {b:Nat} {o:Obj} (h:w.heap[b]?=some o):w'.heap[b]?=some o:=by rw [hb.block b (Array.getElem?_eq_some_iff.1 h).1];exact h
theorem wO {p:Nat} {w w':World} (hb:But p w w') {b:Nat} (hp:b≠p) {o:Obj} (h:w.heap[b]?=some o):w'.heap[b]?=some o:=by rw [hb.block b (Array.getElem?_eq_some_iff.1 h).1 (by simpa using hp)];exact h
theorem Im {p:Nat} {w w':World} (hb:oQ p w w') {b:Nat} (hp:b≠p) {cs:Array Value} {t:TypeId} {z:Nat × Nat} (ht:t≠68) (h:w.heap[b]?=some (.cells cs t z)):w'.heap[b]?=some (.cells cs t z):=by
 rw [hb.block b (Array.getElem?_eq_some_iff.1 h).1 hp (fun cur z' e=>by rw [h] at e;injection e with e;injection e with e1 e2 e3;exact ht e2)];exact h
theorem qE {w:World} {b:Nat} {v:Value} {t:TypeId} (h:w.heap[b]?=some (.cells #[v] t (0,0))):w.cell? ⟨b,0,none⟩=some v:=by unfold World.cell?;rw [h];rfl
theorem LS.cr {σ:Type} {w0:World} {p:Nat} {s:ByteArray} {M:σ->(Nat->Value)->Nat->Nat->World->Prop} {sec:Int->mV σ} {ok:Int->Bool} {cd fl:σ->Nat} {en br:Nat} {W:World} {X:R σ} {last:Int} {st:σ} {c:Nat->Value} {k i n:Nat} {wr:World}
  (h:LS w0 p s M sec ok cd fl en br W X last st c k i n wr):wr.cell? ⟨br,0,none⟩=some (.pointer (some ⟨p,0,none⟩)):=qE h.hr
theorem LS.on {σ:Type} {w0:World} {p:Nat} {s:ByteArray} {M:σ->(Nat->Value)->Nat->Nat->World->Prop} {sec:Int->mV σ} {ok:Int->Bool} {cd fl:σ->Nat} {en br:Nat} {W:World} {X:R σ} {last:Int} {st:σ} {c:Nat->Value} {k i n:Nat} {wr wr':World} (hK:Ba p M)
  (h:LS w0 p s M sec ok cd fl en br W X last st c k i n wr) (hb:Below wr.heap.size wr wr'):LS w0 p s M sec ok cd fl en br W X last st c k i n wr' :=
 ⟨h.rs.on hb,hK _ _ _ _ _ _ h.m (But.of p hb),h.but.trans (But.t (But.of p hb)),vH hb h.hr,h.run,h.last⟩
section
variable {σ:Type} {sec:Int->mV σ} {ok:Int->Bool} {cd fl:σ->Nat} {s:ByteArray} {en f:Nat} {last:Int} {st:σ} {i:Nat} {X:R σ}
theorem G7 (hi:¬ i<en) (h:lg sec ok cd fl s en f last st i=some X):X=if cd st=fl st then .ok (st,i) else .error 50:=by
 cases f with
 | zero=>cases h
 | succ f=>simp only [lg,if_neg hi,Option.some.injEq] at h;exact h.symm
theorem BB (hi:i<en) (h:lg sec ok cd fl s en f last st i=some X):(11<ae.bt s i->X=.error 50)/\(¬ 11<ae.bt s i->ae.bt s i≠0/\¬ last<ae.bt s i->X=.error 50) /\
  (¬ 11<ae.bt s i->¬ (ae.bt s i≠0/\¬ last<ae.bt s i)->ok (ae.bt s i)=true/\(∀z,dZ (sec (ae.bt s i)) s st en (i+1)=.error z->X=.error z) /\
   ∀st' m,dZ (sec (ae.bt s i)) s st en (i+1)=.ok (st',m)->∃f',lg sec ok cd fl s en f' (if ae.bt s i=0 then last else ae.bt s i) st' m=some X):=by
 cases f with
 | zero=>cases h
 | succ f =>
  have hn:nx s en i=.ok (ae.bt s i,i+1):=by unfold nx;rw [if_pos hi]
  simp only [lg,if_pos hi,hn] at h;refine ⟨fun h1=>?_,fun h1 h2=>?_,fun h1 h2=>?_⟩
  ·rw [if_pos h1] at h;exact (Option.some.inj h).symm
  ·rw [if_neg h1,if_pos h2] at h;exact (Option.some.inj h).symm
  ·rw [if_neg h1,if_neg h2] at h;by_cases h3:ok (ae.bt s i)=true
   ·rw [if_pos h3] at h;refine ⟨h3,fun z hz=>?_,fun st' m hm=>?_⟩
    ·rw [hz] at h;exact (Option.some.inj h).symm
    ·rw [hm] at h;exact ⟨f,h⟩
   ·rw [if_neg h3] at h;cases h
end
theorem RS.yA {w0 w:World} {p:Nat} {s:ByteArray} {c:Nat->Value} {en k i n:Nat} (h:RS w0 p s c en k i n w):rL p w=i:=by
 unfold rL;rw [h.cell 1 _ rfl];rfl
end ai
theorem Q7 {σ:Type} {w0:World} {p:Nat} {s:ByteArray} {M:σ->(Nat->Value)->Nat->Nat->World->Prop} (hK:Ba p M) {sec:Int->mV σ} {ok:Int->Bool} {cd fl:σ->Nat} (hS:∀id,ok id=true->kr w0 p s M (sec id) id)
  (hF:∀st c k n w,M st c k n w->k=cd st/\∃o cap,c 2=.slice o (fl st) cap)
  (st:σ) (c:Nat->Value) (en k i n f:Nat) (w:World) (h:RS w0 p s c en k i n w) (hM:M st c k n w) (X:R σ) (hX:lg sec ok cd fl s en f 0 st i=some X) :
  Calls Tryz.prog 13 #[.pointer (some ⟨p,0,none⟩)] w (iO w0 p s M en w X):=by
 have D7:Below w.heap.size w (w.alloc (.cells #[.pointer (some ⟨p,0,none⟩)] 48)):=(Below.refl _ _).alloc (Nat.le_refl _) _;have hlt:=h.lt;have hcr:(w.alloc (.cells #[.pointer (some ⟨p,0,none⟩)] 48)).cell? ⟨w.heap.size,0,none⟩=some (.pointer (some ⟨p,0,none⟩)):=by simp
 have yL:But p w (w.alloc (.cells #[.pointer (some ⟨p,0,none⟩)] 48)):=But.of p D7;have Io:(w.alloc (.cells #[.pointer (some ⟨p,0,none⟩)] 48)).heap[w.heap.size]?=some (.cells #[.pointer (some ⟨p,0,none⟩)] 48 (0,0)):=fB _ _ rfl;have rO:Hid (LS w0 p s M sec ok cd fl en w.heap.size (w.alloc (.cells #[.pointer (some ⟨p,0,none⟩)] 48)) X 0 st c k i n (w.alloc (.cells #[.pointer (some ⟨p,0,none⟩)] 48))):=aa ⟨h.on D7,hK _ _ _ _ _ _ hM yL,But.t (But.refl _ _),Io,⟨f,hX⟩,by omega⟩;have R7:=aa yL;have wQ:w.heap.size≠p:=by omega
 have hen:=h.len;have hs0:=h.big;have fin:Hid (∀e w',iO w0 p s M en w X e w'->iO w0 p s M en w X e w'):=aa fun _ _ h=>h;clear h hM hX D7 hcr yL hlt Io;go_enter Tryz.func13,Tryz.ntmps13;go_wp2_with fail;generalize w.alloc (.cells #[.pointer (some ⟨p,0,none⟩)] 48)=W at *;go_loopw [2] (fun la wr=>∃(last:Int) (st:σ) (c:Nat->Value) (k i n:Nat),la=.int .i64 last/\Hid (LS w0 p s M sec ok cd fl en w.heap.size W X last st c k i n wr)) (fun _ wr=>en-rL p wr)
 case atStart=>exact ⟨0,st,c,k,i,n,rfl,rO⟩
 case round =>
  clear rO;obtain ⟨last,st,c,k,i,n,rfl,HL⟩:=hrel;have hat:rL p wr=i:=HL.out.rs.yA;have Ip:=aa hat;clear hat;have c1:=HL.out.rs.cell 1 _ rfl;have c2:=HL.out.rs.cell 2 _ rfl;have cb:=HL.out.cr;have hla:=HL.out.last;go_wp2_with fail;go_quiet (fail);have kN:=aa (HL.out.on hK (bN wr nq));generalize wr.drewN nq=u1 at *;clear c1 c2 cb HL;have cb:=kN.out.cr;by_cases hi:i<en
  ·have dl:decide ((i:Int)<(en:Int))=true:=decide_eq_true (by omega);have hnx:nx s en i=.ok (ae.bt s i,i+1):=by unfold nx;rw [if_pos hi]
   have HN:=aa (rf w0 p s c en k i n u1 kN.out.rs);rw [hnx] at HN;obtain ⟨f',hrun⟩:=kN.out.run;have HST:=aa (BB hi hrun);have hbt:=ae.lQ s i;clear hrun hnx;obtain ⟨id,hid⟩:∃id,id=ae.bt s i:=⟨_,rfl⟩;rw [<- hid] at HN HST hbt;clear hid;go_wp2_with fail;refine HN.out.mono ?_;rintro e u ⟨⟨v,rfl,hv⟩,h1,h2⟩;have hv:v=.int .i64 id:=hv;subst hv;clear hv;have HX:=aa (And.intro h1 h2);clear h1 h2 HN;have iB:Below u.heap.size u (u.alloc (.cells #[.int .i64 id] 3)):=(Below.refl _ _).alloc (Nat.le_refl _) _;have xN:(u.alloc (.cells #[.int .i64 id] 3)).cell? ⟨u.heap.size,0,none⟩=some (.int .i64 id):=by simp
   have hb2:But p u1 (u.alloc (.cells #[.int .i64 id] 3)):=HX.out.2.trans (But.of p iB);have hup:u.heap.size≠p:=by have:=HX.out.1.lt;omega
   have HR2:=aa (And.intro (HX.out.1.on iB) (And.intro (hK _ _ _ _ _ _ kN.out.m hb2) (And.intro (Cx hb2 wQ kN.out.cr) (And.intro xN (And.intro hup (And.intro (kN.out.but.trans (But.t hb2)) (wO hb2 wQ kN.out.hr)))))));have hci:=xN;by_cases h11:11<id
   ·have d11:decide (id<=11)=false:=decide_eq_false (by omega);go_wp2_with fail;refine (eZ _ _).mono ?_;rintro e w' ⟨rfl,rfl⟩;refine ⟨rfl,fin.out _ _ ?_⟩;rw [HST.out.1 h11];exact ⟨rfl,HR2.out.1.below⟩
   ·have d11:decide (id<=11)=true:=decide_eq_true (by omega);have D8:id<=11:=by omega
    clear iB hb2 xN;go_wp2_with fail;generalize u.alloc (.cells #[.int .i64 id] 3)=u2 at *;have VT:=HR2.out.2.2.1;refine (bH _ _).mono ?_;rintro e w' ⟨rfl,rfl⟩;by_cases h0:id=0
    ·have q0:(id != 0)=false:=by simp [h0]
     have h3:=HST.out.2.2 D8 (by omega);have hok:=h3.1;have HZ:=aa (FI hK (hS id hok) st c en k (i+1) n w.heap.size u.heap.size _ HR2.out.1 HR2.out.2.1 HR2.out.2.2.1 HR2.out.2.2.2.1 wQ HR2.out.2.2.2.2.1);generalize rR:dZ (sec id) s st en (i+1)=Y at HZ;go_wp2_with fail;refine HZ.out.mono ?_;intro e w3 hr;cases Y with
     | error z =>
      obtain ⟨rfl,hb⟩:=hr;have wR:=h3.2.1 z rR;refine ⟨rfl,fin.out _ _ ?_⟩;rw [wR];exact ⟨rfl,hb⟩
     | ok vv =>
      obtain ⟨st',m⟩:=vv;obtain ⟨rfl,⟨c',k',n',hr3,wT⟩,hb3⟩:=hr;have hgt:=vK hen rR;have R8:=hr3.le;have yN:Hid (LS w0 p s M sec ok cd fl en w.heap.size W X last st' c' k' m n' w3):=aa ⟨hr3,wT,HR2.out.2.2.2.2.2.1.trans hb3,Im hb3 wQ (by decide) HR2.out.2.2.2.2.2.2,by have:=h3.2.2 st' m rR;rwa [if_pos h0] at this,by omega⟩;have wU:=aa hr3.yA;clear hr3 wT hb3 HZ;go_wp2;go_roundw
      case rel=>exact ⟨_,st',c',k',m,n',rfl,yN⟩
      case measure=>rw [wU.out,Ip.out];omega
    ·have q0:(id != 0)=true:=by simp [h0]
     by_cases hl:last<id
     ·have R9:decide (id > last)=true:=decide_eq_true (by omega);have h3:=HST.out.2.2 D8 (by omega);have hok:=h3.1;go_wp2_with fail;refine (bH _ _).mono ?_;rintro e w' ⟨rfl,rfl⟩;have HZ:=aa (FI hK (hS id hok) st c en k (i+1) n w.heap.size u.heap.size _ HR2.out.1 HR2.out.2.1 HR2.out.2.2.1 HR2.out.2.2.2.1 wQ HR2.out.2.2.2.2.1);generalize rR:dZ (sec id) s st en (i+1)=Y at HZ;go_wp2_with fail;refine HZ.out.mono ?_;intro e w3 hr;cases Y with
      | error z =>
       obtain ⟨rfl,hb⟩:=hr;have wR:=h3.2.1 z rR;refine ⟨rfl,fin.out _ _ ?_⟩;rw [wR];exact ⟨rfl,hb⟩
      | ok vv =>
       obtain ⟨st',m⟩:=vv;obtain ⟨rfl,⟨c',k',n',hr3,wT⟩,hb3⟩:=hr;have hgt:=vK hen rR;have R8:=hr3.le;have yN:Hid (LS w0 p s M sec ok cd fl en w.heap.size W X id st' c' k' m n' w3):=aa ⟨hr3,wT,HR2.out.2.2.2.2.2.1.trans hb3,Im hb3 wQ (by decide) HR2.out.2.2.2.2.2.2,by have:=h3.2.2 st' m rR;rwa [if_neg h0] at this,by omega⟩;have wU:=aa hr3.yA;clear hr3 wT hb3 HZ;go_wp2;go_roundw
       case rel=>exact ⟨_,st',c',k',m,n',rfl,yN⟩
       case measure=>rw [wU.out,Ip.out];omega
     ·have R9:decide (id > last)=false:=decide_eq_false (by omega);go_wp2_with fail;refine (eZ _ _).mono ?_;rintro e w' ⟨rfl,rfl⟩;refine ⟨rfl,fin.out _ _ ?_⟩;rw [HST.out.2.1 D8 (by omega)];exact ⟨rfl,HR2.out.1.below⟩
  ·have dl:decide ((i:Int)<(en:Int))=false:=decide_eq_false (by omega);obtain ⟨f',hrun⟩:=kN.out.run;have wR:=G7 hi hrun;obtain ⟨hk,o2,cap2,hc2⟩:=hF _ _ _ _ _ kN.out.m;have c13:=kN.out.rs.cell 13 _ rfl;have c5:u1.cell? ⟨p,5,none⟩=some (c 2):=kN.out.rs.cell 5 _ rfl;rw [hc2] at c5;have Iq:=aa wR;have HF:=aa (And.intro kN.out.rs (And.intro kN.out.m kN.out.but));clear hrun wR hc2;subst hk;by_cases hcf:cd st=fl st
   ·have dq:((cd st:Int) == (fl st:Int))=true:=by simp [hcf]
    go_wp2_with fail;go_quiet (first|(go_at_call 11;exact Calls.quiet_of_same (bH _ _)))
    go_wp2;go_end0;refine fin.out _ _ ?_;rw [Iq.out,if_pos hcf];have hb:=bN u1 nq;exact ⟨rfl,⟨_,_,_,HF.out.1.on hb,hK _ _ _ _ _ _ HF.out.2.1 (But.of p hb)⟩,(But.t R7.out).trans (HF.out.2.2.trans (But.t (But.of p hb)))⟩
   ·have dq:((cd st:Int) == (fl st:Int))=false:=by simp;omega
    go_wp2_with fail;refine af.yF 11 (fun i=>28+i) (fun j v _=>v=eG w.heap.size p (cd st) (fl st) o2 cap2 j) (by kernel_rfl) (by kernel_rfl) (fun i j h1 h2 h=>by have h':28+i=28+j:=h;omega) (af.tP (size:=40) (by kernel_rfl)) (fun i v w w' _ h _=>h) ?hstep ?fu
    case hstep =>
     intro j o a u hj ho hF2 hB hd;have f1:a.tmps[1]?.getD undef=.pointer (some ⟨w.heap.size,0,none⟩):=af.av (hF2.eval 1 (fun i hi=>by show 28+i≠1;omega));have db:=aF hB cb;have d13:=aF hB c13;have d5:=aF hB c5;have hcase:j=0\/j=1\/j=2\/j=3\/j=4\/j=5\/j=6\/j=7\/j=8\/j=9\/j=10:=by omega
     clear hj cb c13 c5;rcases hcase with rfl|rfl|rfl|rfl|rfl|rfl|rfl|rfl|rfl|rfl|rfl
     all_goals (simp only [List.getElem?_toArray,List.getElem?_cons_succ,List.getElem?_cons_zero,Option.some.injEq] at ho;subst ho;refine af.aR fun K hK=>?_)
     ·go_simp;exact hK _ _ ⟨_,rfl,Below.refl _ _,rfl⟩
     ·have q:a.tmps[28]?.getD undef=.pointer (some ⟨p,0,none⟩):=af.av (hd 0 (by decide));go_simp;exact hK _ _ ⟨_,rfl,Below.refl _ _,rfl⟩
     ·have q:a.tmps[29]?.getD undef=.pointer (some ⟨p,0,none⟩):=af.av (hd 1 (by decide));go_simp;exact hK _ _ ⟨_,rfl,Below.refl _ _,rfl⟩
     ·have q:a.tmps[30]?.getD undef=.pointer (some ⟨p,13,none⟩):=af.av (hd 2 (by decide));go_simp;exact hK _ _ ⟨_,rfl,Below.refl _ _,rfl⟩
     ·go_simp;exact hK _ _ ⟨_,rfl,Below.refl _ _,rfl⟩
     ·have q:a.tmps[32]?.getD undef=.pointer (some ⟨p,0,none⟩):=af.av (hd 4 (by decide));go_simp;exact hK _ _ ⟨_,rfl,Below.refl _ _,rfl⟩
     ·have q:a.tmps[33]?.getD undef=.pointer (some ⟨p,0,none⟩):=af.av (hd 5 (by decide));go_simp;exact hK _ _ ⟨_,rfl,Below.refl _ _,rfl⟩
     ·have q:a.tmps[34]?.getD undef=.pointer (some ⟨p,3,none⟩):=af.av (hd 6 (by decide));go_simp;exact hK _ _ ⟨_,rfl,Below.refl _ _,rfl⟩
     ·have q:a.tmps[35]?.getD undef=.pointer (some ⟨p,5,none⟩):=af.av (hd 7 (by decide));go_simp;exact hK _ _ ⟨_,rfl,Below.refl _ _,rfl⟩
     ·have q:a.tmps[36]?.getD undef=.slice o2 (fl st) cap2:=af.av (hd 8 (by decide));go_simp;exact hK _ _ ⟨_,rfl,Below.refl _ _,rfl⟩
     ·have q:a.tmps[31]?.getD undef=.int .i64 (cd st:Int):=af.av (hd 3 (by decide));have q2:a.tmps[37]?.getD undef=.int .i64 (fl st:Int):=af.av (hd 9 (by decide));go_simp;exact hK _ _ ⟨_,rfl,Below.refl _ _,rfl⟩
    case fu =>
     intro a u hF2 hB hG;have q:a.tmps[38]?.getD undef=.bool false:=af.av (hG 10 (by decide));simp only [List.drop_succ_cons,List.drop_zero];refine wpList_plain rfl fun K hK=>?_;go_simp;refine (eZ _ _).mono ?_;rintro e u2 ⟨rfl,rfl⟩;refine ⟨hF2.defers,fin.out _ _ ?_⟩;rw [Iq.out,if_neg hcf];exact ⟨rfl,HF.out.1.below.trans (hB.mono HF.out.1.below.size)⟩
theorem TN (d:Nat) (IH:wC d):wC (d+1):=by
 intro w0 p s c en k i n w dep h hn hd mi;have hpw:=h.lt;have hlen:=h.len;obtain ⟨sub,hsub⟩:∃sub,sub=dG s en d (dep+1):=⟨_,rfl⟩;have hfw:xe en sub:=by rw [hsub];exact Ey hlen d (dep+1)
 have hnb:Nb sub:=by rw [hsub];exact wE s en d (dep+1)
 have e:dG s en (d+1) dep i n=fG sub s en dep (en-i+1) i n:=by rw [hsub];rfl
 rw [e];obtain ⟨R,hR⟩:∃R,R=fG sub s en dep (en-i+1) i n:=⟨_,rfl⟩;rw [<- hR];have HR:=aa hR;have H:=aa h
 have HI:Hid (∀(j n:Nat) (u:World) (op:Int),RS w0 p s c en k j n u->n<=65536->dep<=65->Calls Tryz.prog 105 #[.pointer (some ⟨p,0,none⟩),.int .i64 op,.int .i64 dep] u (ou w0 p s c en k (kv u.heap.size d) u (iC sub s en dep op j n))):=aa (fun j n u op hu hn hp=>by
  rw [hsub];exact TP w0 p s c en k j n u hu hn op dep hp IH (by omega))
 have BR:=aa hfw;have xf:=aa hnb;clear e hR h hsub hfw hnb IH;go_enter Tryz.func92,Tryz.ntmps92;go_wp2_with fail;go_loopw [4] (fun t wr=>∃(l:List (Ins (IL d))) (ps:List (Pc d)) (iq nq f:Nat),(∃o c,t=.slice o l.length c)/\nq<=65536/\en-iq+1<=f/\l.length<=iq/\Hid (R=lv l (fG sub s en dep f iq nq))/\Hid (RS w0 p s c en k iq nq wr)/\Hid (But p w wr)/\Hid (ps.map (·.1)=l)/\Hid (wr.ownsRow w.heap.size 73 7 t l.length (nT ps))/\Hid (∀q ∈ ps,nk wr (Since w.heap.size wr t.ownBlock) q)) (fun _ wr=>en-(RowKit.intOf ((wr.cell? ⟨p,1,none⟩).getD (.int .i64 0))).toNat)
 case atStart=>exact ⟨[],[],i,n,en-i+1,⟨none,0,rfl⟩,hn,Nat.le_refl _,by simp,aa (by rw [HR.out,Kr]),H,aa (But.refl p w),aa rfl,aa (World.ownsRow_nil _ _ _ _),aa (fun q hq=>by cases hq)⟩
 case round =>
  obtain ⟨l,ps,iq,nq,f,⟨oT,cT,rfl⟩,hnq,hf,hll,HP,HS,HB,HM,HO,HK⟩:=hrel;obtain ⟨f',rfl⟩:∃f',f=f'+1:=⟨f-1,by omega⟩;have hbig:=HS.out.big;have hle:=HS.out.le;have hN:=rf w0 p s c en k iq nq wr HS.out;cases hx:nx s en iq with
  | error z =>
   rw [hx] at hN;have HN:=aa hN;have HZ:Hid (R=.error z):=aa (by rw [HP.out];exact Ks hx);clear hN hx HP HO HK HM;go_wp2_with fail;refine HN.out.mono ?_;rintro e w1 ⟨rfl,hb⟩;exact ⟨rfl,by rw [HZ.out];exact ⟨rfl,hb⟩⟩
  | ok v =>
   obtain ⟨op,j⟩:=v;have hnx:=xg hx;rw [hx] at hN;have HN:=aa hN;clear hN;by_cases ho:op=11\/op=5
   ·have HZ:Hid (R=.ok ((l,op),j,nq)):=aa (by rw [HP.out];exact Ez hx ho);have HV:Hid (ah wr (Since w.heap.size wr none) (d+1) (.slice oT l.length cT) l):=aa (JA l ps HM.out (by omega) (by rw [show ps.length=l.length by rw [<- HM.out,List.length_map]];exact HO.out) HK.out);have hq:(op == 11)=true\/((op == 11)=false/\(op == 5)=true):=by rcases ho with rfl|rfl<;>decide
    clear ho hx HP HO HK HM hnx hf;generalize l.length=nl at *;rcases hq with q1|⟨q1,q2⟩
    all_goals
     go_wp2_with fail;refine HN.out.mono ?_;rintro e w1 ⟨⟨v,rfl,hv⟩,h1,h2⟩;have hv:v=.int .i64 op:=hv;subst hv;have HF:=aa (⟨h1,HB.out.trans h2⟩:_/\_);have EB:=aa (ah.keep (mf hpw h2) (d+1) _ _ HV.out);clear h1 h2 HN HV;go_wp2;go_ret2;rw [HZ.out];exact ⟨⟨_,rfl,_,_,_,rfl,EB.out⟩,HF.out.1,HF.out.2⟩
   ·have q1:(op == 11)=false:=by rw [beq_eq_false_iff_ne];omega
    have q2:(op == 5)=false:=by rw [beq_eq_false_iff_ne];omega
    cases hr:iC sub s en dep op j nq with
    | error z =>
     have HZ:Hid (R=.error z):=aa (by rw [HP.out];exact EC hx ho hr);have Aj:=aa hr;clear ho hx hr HP HO HK HM hnx hf hll;generalize l.length=nl at *;go_wp2_with fail;refine HN.out.mono ?_;rintro e w1 ⟨⟨v,rfl,hv⟩,h1,h2⟩;have hv:v=.int .i64 op:=hv;subst hv;have hC:=HI.out j nq w1 op h1 hnq mi;rw [Aj.out] at hC;have HC:=aa hC;clear h1 h2 HN hC Aj;go_wp2_with fail;refine HC.out.mono ?_;rintro e w2 ⟨rfl,hb⟩;exact ⟨rfl,by rw [HZ.out];exact ⟨rfl,hb⟩⟩
    | ok v =>
     obtain ⟨x,m,n2⟩:=v;have hro:=EE hlen BR.out (by omega) hr;have jP:n2<=65536:=EF xf.out _ _ _ _ _ hnq hr;have HZ:Hid (R=lv (l++[x]) (fG sub s en dep f' m n2)):=aa (by rw [HP.out];exact Ku hx ho hr);have Aj:=aa hr;clear ho hx hr HP;generalize hnl:l.length=nl at *;go_wp2_with fail;refine HN.out.mono ?_;rintro e w1 ⟨⟨v,rfl,hv⟩,h1,h2⟩;have hv:v=.int .i64 op:=hv;subst hv;have hC:=HI.out j nq w1 op h1 hnq mi;rw [Aj.out] at hC;have HC:=aa hC;have mM:=aa (fA HO.out hpw h2);have lZ:=aa (fun q hq=>(HK.out q hq).keep (jQ hpw h2));have HB1:=aa (HB.out.trans h2);have eY:Hid (∀q',(Value.slice oT nl cT).ownBlock=some q'->w.heap.size<=q'/\q'<w1.heap.size):=aa (fun q' hq'=>mM.out.lt q' hq');have bM:Hid (w.heap.size<=w1.heap.size):=aa (Nat.le_trans HB.out.size h2.size);clear h1 h2 HN hC Aj HO HK HB;go_wp2_with fail;refine HC.out.mono ?_;rintro e w2 ⟨⟨v,rfl,hv⟩,h1,h2⟩;obtain ⟨o4,n4,k4,o5,n5,k5,o6,n6,k6,rfl,gK,bK,cW⟩:=hv;have hup:=kG (B:=w.heap.size) (B2:=w1.heap.size) (u:=w2) (row:=(Value.slice oT nl cT).ownBlock) bM.out (fun q' hq'=>(eY.out q' hq').2);have dJ:Hid (nk w2 (Since w.heap.size w2 (Value.slice oT nl cT).ownBlock) (jV x (.slice o4 n4 k4) (.slice o5 n5 k5) (.slice o6 n6 k6))):=aa ⟨gK.keep hup,ah.keep hup _ _ _ bK,ah.keep hup _ _ _ cW⟩;have aU:=aa ((fA mM.out hpw h2).alloc (.cells #[.int .i64 x.op,.int .i64 x.a,.int .i64 x.b,.int .i64 x.n,.slice o4 n4 k4,.slice o5 n5 k5,.slice o6 n6 k6] 73));have cJ:=aa (ym w2 x (.slice o4 n4 k4) (.slice o5 n5 k5) (.slice o6 n6 k6));have dh:=aa (fun q hq=>(lZ.out q hq).keep (jQ hpw h2));have HB2:=aa ((HB1.out.trans h2).trans (But.of p (aD w2 (.cells #[.int .i64 x.op,.int .i64 x.a,.int .i64 x.b,.int .i64 x.n,.slice o4 n4 k4,.slice o5 n5 k5,.slice o6 n6 k6] 73))));have az:=aa (h1.on (aD w2 (.cells #[.int .i64 x.op,.int .i64 x.a,.int .i64 x.b,.int .i64 x.n,.slice o4 n4 k4,.slice o5 n5 k5,.slice o6 n6 k6] 73)));have bh:=aa (aD w2 (.cells #[.int .i64 x.op,.int .i64 x.a,.int .i64 x.b,.int .i64 x.n,.slice o4 n4 k4,.slice o5 n5 k5,.slice o6 n6 k6] 73));have bY:Hid (w.heap.size<=w2.heap.size):=aa (Nat.le_trans bM.out h2.size);clear h1 h2 gK bK cW hup HC mM lZ HB1 eY bM;obtain ⟨i1,hi1,hy0,hy1,hy2⟩:=info_parts yo;go_wp2_with (first|(at_builtin;refine iN rfl _ _ 66 rfl w.heap.size 73 i1 _ 7 104 Tryz.underlying66 hi1 hy0 hy1 hy2 rfl (by decide) _ _ _ rfl aU.out (some ⟨w2.heap.size,0,none⟩) 1 1 (iS (jV x (.slice o4 n4 k4) (.slice o5 n5 k5) (.slice o6 n6 k6))) rfl ?c6 ?c0 ?c1 ?c2 ?c3 ?c4 ?c5 ?_))
     case c6=>intro h;cases h
     case c0=>rfl
     case c1=>exact fun ad h=>by injection h with h;subst h;exact cJ.out
     case c2=>exact yp _ rfl rfl rfl
     case c3=>unfold maxLen;omega
     case c4=>omega
     case c5=>have:=bY.out;simp;omega
     intro v9 w9 aW aP aN;have aS:∀q',(Value.slice oT nl cT).ownBlock=some q'->w.heap.size<=q':=fun q' hq'=>(aU.out.lt q' hq').1;have bP:=aa (az.out.grown aP (fun q' hq'=>Nat.lt_of_lt_of_le hpw (aS q' hq')));have cG:=aa (But.grown (p:=p) HB2.out aP aS);have dF:Hid (w9.ownsRow w.heap.size 73 7 v9 (nl+1) (nT (ps++[jV x (.slice o4 n4 k4) (.slice o5 n5 k5) (.slice o6 n6 k6)]))):=aa (by rw [JB];exact aW)
     have jf:Hid (∀q ∈ ps++[jV x (.slice o4 n4 k4) (.slice o5 n5 k5) (.slice o6 n6 k6)],nk w9 (Since w.heap.size w9 v9.ownBlock) q):=aa (fun q hq=>by
      have key:∀q:Pc d,nk w2 (Since w.heap.size w2 (Value.slice oT nl cT).ownBlock) q->nk w9 (Since w.heap.size w9 v9.ownBlock) q:=fun q h=>(h.keep (fw bh.out)).keep (oC aP (by simpa using aN));rcases List.mem_append.1 hq with hq|hq
      ·exact key q (dh.out q hq)
      ·rw [List.mem_singleton.1 hq];exact key _ dJ.out)
     have EG:Hid ((ps++[jV x (.slice o4 n4 k4) (.slice o5 n5 k5) (.slice o6 n6 k6)]).map (·.1)=l++[x]):=aa (by rw [List.map_append,HM.out];rfl);have hsl:=fU aW;have vQ:Hid ((l++[x]).length=nl+1):=aa (by rw [List.length_append,hnl];rfl);have TQ:=bP.out.cell 1 _ rfl;have hcr:=HS.out.cell 1 _ rfl;clear aW aP aN aS aU cJ HB2 az dh dJ bh;obtain ⟨oN,cN,rfl⟩:=hsl;go_wp2;go_roundw
     case rel=>exact ⟨l++[x],_,m,n2,f',⟨oN,cN,by rw [vQ.out]⟩,jP,by omega,by rw [vQ.out];omega,HZ,bP,cG,EG,by rw [vQ.out];exact dF,jf⟩
     case measure=>rw [TQ,hcr];simp [RowKit.intOf];omega
theorem Hl:∀d,wC d
 | 0=>TR
 | d+1=>TN d (Hl d)
namespace ai
def Q8 (B d:Nat) (a:IL d) (v:Value) (w:World):Prop:=∃o n k,v=.slice o n k/\ah w (Since B w none) d (.slice o n k) a
end ai
theorem Q3 (w0:World) (p:Nat) (s:ByteArray) (c:Nat->Value) (en k i n:Nat) (w:World) (h:RS w0 p s c en k i n w) (hn:n<=65536) :
  Calls Tryz.prog 78 #[.pointer (some ⟨p,0,none⟩)] w (ou w0 p s c en k (Q8 w.heap.size 81) w (ny s en i n)):=by
 have hC:=Hl 81 w0 p s c en k i n w 0 h hn (by omega) (by omega);unfold ny;cases hx:dG s en 81 0 i n with
 | error z =>
  rw [hx] at hC;have HC:=aa hC;rw [Da];clear hC hx h;go_enter Tryz.func78,Tryz.ntmps78;go_wp2_with fail;refine HC.out.mono ?_;rintro e w1 ⟨rfl,hb⟩;exact ⟨rfl,rfl,hb⟩
 | ok v =>
  obtain ⟨⟨l,t⟩,j,m⟩:=v;have tz:t=5\/t=11:=xY s en 81 0 _ _ _ _ _ hx;rw [hx] at hC;have HC:=aa hC;rw [Db];dsimp only;clear hC hx h;rcases tz with rfl|rfl
  ·rw [if_neg (by decide)];go_enter Tryz.func78,Tryz.ntmps78;go_wp2_with fail;refine HC.out.mono ?_;rintro e w1 ⟨⟨v,rfl,o,nn,kk,hv,hA⟩,h1,h2⟩;have hv:v=.tuple #[.slice o nn kk,.int .i64 5]:=hv;subst hv;have HF:=aa h1.below;clear h1 h2 hA HC;go_wp2_with fail;refine (eZ _ _).mono ?_;rintro e u ⟨rfl,rfl⟩;exact ⟨rfl,rfl,HF.out⟩
  ·rw [if_pos rfl];go_enter Tryz.func78,Tryz.ntmps78;go_wp2_with fail;refine HC.out.mono ?_;rintro e w1 ⟨⟨v,rfl,o,nn,kk,hv,hA⟩,h1,h2⟩;have hv:v=.tuple #[.slice o nn kk,.int .i64 11]:=hv;subst hv;have HF:=aa (⟨h1,h2,hA⟩:_/\_/\_);clear h1 h2 hA HC;go_wp2_with fail;refine (bH _ _).mono ?_;rintro e u ⟨rfl,rfl⟩;go_wp2;go_ret;exact ⟨⟨_,rfl,_,_,_,rfl,HF.out.2.2⟩,HF.out.1,HF.out.2.1⟩
theorem NW (w:World):(Instr.typeAssert .nilIface 20 34 true).run Tryz.prog w=.ok (.tuple #[.int .i64 0,.bool false]) w:=by
 kernel_rfl
theorem DT {w:World} {a:Addr} {b j:Nat} {v:Value} (h:a.block≠b):(w.setCell ⟨b,j,none⟩ v).cell? a=w.cell? a:=World.cell?_of_block (Below.heap_setCell _ _ _ _ h)
namespace ai
structure EI (w u:World):Prop where
 b4:u.heap[w.heap.size]?=some (.cells #[.slice none 0 0] 66 (0,0))
 b5:u.heap[w.heap.size+1]?=some (.cells #[.int .i64 0] 3 (0,0))
 b6:u.heap[w.heap.size+2]?=some (.cells #[.int .i64 0] 34 (0,0))
 iy:Below w.heap.size w u
def ew (w:World):World:=((w.alloc (.cells #[.slice none 0 0] 66)).alloc (.cells #[.int .i64 0] 3)).alloc (.cells #[.int .i64 0] 34)
theorem EI.start (w:World):EI w (ew w):=by
 have h1:(w.alloc (.cells #[.slice none 0 0] 66)).heap[w.heap.size]?=some (.cells #[.slice none 0 0] 66 (0,0)):=fB w _ rfl;have h2:((w.alloc (.cells #[.slice none 0 0] 66)).alloc (.cells #[.int .i64 0] 3)).heap[w.heap.size+1]?=some (.cells #[.int .i64 0] 3 (0,0)):=fB _ _ (by simp);have h3:(ew w).heap[w.heap.size+2]?=some (.cells #[.int .i64 0] 34 (0,0)):=fB _ _ (by simp);exact ⟨qx (qx h1),qx h2,h3,cu (cu (aD _ _) (aD _ _)) (aD _ _)⟩
theorem EI.on {w u u':World} (h:EI w u) (hb:Below u.heap.size u u'):EI w u' :=
 ⟨by rw [hb.block _ (Array.getElem?_eq_some_iff.1 h.b4).1];exact h.b4,by rw [hb.block _ (Array.getElem?_eq_some_iff.1 h.b5).1];exact h.b5,by rw [hb.block _ (Array.getElem?_eq_some_iff.1 h.b6).1];exact h.b6,cu h.iy hb⟩
def e3 (w u:World) (v y x:Value):World:=((u.setCell ⟨w.heap.size,0,none⟩ v).setCell ⟨w.heap.size+1,0,none⟩ y).setCell ⟨w.heap.size+2,0,none⟩ x
theorem EI.set {w u:World} (h:EI w u) (v y x:Value):(e3 w u v y x).cell? ⟨w.heap.size,0,none⟩=some v/\(e3 w u v y x).cell? ⟨w.heap.size+1,0,none⟩=some y/\(e3 w u v y x).cell? ⟨w.heap.size+2,0,none⟩=some x/\Below w.heap.size w (e3 w u v y x):=by
 have a4:=heap_setCell_same u w.heap.size 0 _ _ v h.b4;have a5:=heap_setCell_same (u.setCell ⟨w.heap.size,0,none⟩ v) (w.heap.size+1) 0 _ _ y (by rw [Below.heap_setCell _ _ _ _ (by show w.heap.size+1≠w.heap.size;omega)];exact h.b5);have a6:=heap_setCell_same ((u.setCell ⟨w.heap.size,0,none⟩ v).setCell ⟨w.heap.size+1,0,none⟩ y) (w.heap.size+2) 0 _ _ x (by rw [Below.heap_setCell _ _ _ _ (by show w.heap.size+2≠w.heap.size+1;omega),Below.heap_setCell _ _ _ _ (by show w.heap.size+2≠w.heap.size;omega)];exact h.b6);refine ⟨?_,?_,?_,((h.iy.setCell (Nat.le_refl _) v).setCell (by show w.heap.size<=w.heap.size+1;omega) y).setCell (by show w.heap.size<=w.heap.size+2;omega) x⟩
 ·unfold e3;rw [DT (by show w.heap.size≠w.heap.size+2;omega),DT (by show w.heap.size≠w.heap.size+1;omega)];unfold World.cell?;rw [a4];rfl
 ·unfold e3;rw [DT (by show w.heap.size+1≠w.heap.size+2;omega)];unfold World.cell?;rw [a5];rfl
 ·unfold e3;unfold World.cell?;rw [a6];rfl
end ai
namespace ai
theorem Be (g:Nat) (t:TypeId):∀(vs:List Value) (o:Nat) (w:World) (cur:Array Value),w.heap[g]?=some (.cells cur t (0,0))->o+vs.length<=cur.size ->
  (w.setCells g o vs).heap[g]?=some (.cells (cur.toList.take o++vs++cur.toList.drop (o+vs.length)).toArray t (0,0))
 | [],o,w,cur,h,_=>by simpa [World.setCells] using h
 | v :: r,o,w,cur,h,hl=>by
  simp only [List.length_cons] at hl;have h1:=Be g t r (o+1) (w.setCell ⟨g,o,none⟩ v) (cur.setIfInBounds o v) (heap_setCell_same w g o cur t v h) (by rw [Array.size_setIfInBounds];omega);rw [World.setCells,h1,Array.toList_setIfInBounds];have hs:o<cur.toList.length:=by rw [Array.length_toList];omega
  have e1:(cur.toList.set o v).take (o+1)=cur.toList.take o++[v]:=by
   rw [List.take_add_one,List.take_set_of_le (Nat.le_refl o),List.getElem?_set_self hs];rfl
  have e2:(cur.toList.set o v).drop (o+1+r.length)=cur.toList.drop (o+1+r.length):=List.drop_set_of_lt (by omega);rw [e1,e2];simp only [List.length_cons,List.append_assoc,List.cons_append,List.nil_append];rw [show o+1+r.length=o+(r.length+1) by omega]
theorem jA (g k:Nat) (hk:k≠g):∀(vs:List Value) (o:Nat) (w:World),(w.setCells g o vs).heap[k]?=w.heap[k]?
 | [],_,_=>rfl
 | v :: r,o,w=>by rw [World.setCells,jA g k hk r,Below.heap_setCell _ _ _ _ (by exact hk)]
theorem wo (g:Nat):∀(vs:List Value) (o:Nat) (w:World),(w.setCells g o vs).heap.size=w.heap.size
 | [],_,_=>rfl
 | v :: r,o,w=>by rw [World.setCells,wo g r];simp
theorem qw (g:Nat):∀(vs:List Value) (o:Nat) (w:World),But g w (w.setCells g o vs)
 | [],_,w=>But.refl _ _
 | v :: r,o,w=>(But.set g o w v).trans (qw g r (o+1) _)
theorem wu {w:World} {b:Nat} {t:TypeId} {cs vs:Array Value} (h:w.heap[b]?=some (.cells cs t (0,0))) (hc:cs.size=10) (hv:vs.size=10):(w.setCells b 0 vs.toList).heap[b]?=some (.cells vs t (0,0)):=by
 rw [Be b t vs.toList 0 w cs h (by simp;omega)];have hd:List.drop 10 cs.toList = []:=List.drop_eq_nil_of_le (by simp [hc]);simp [hv,hd]
structure DI (w u:World):Prop where
 b4:u.heap[w.heap.size]?=some (.cells #[.slice none 0 0,.slice none 0 0,.slice none 0 0,.slice none 0 0,.slice none 0 0,.slice none 0 0,.slice none 0 0,.slice none 0 0,.slice none 0 0,.slice none 0 0] 33 (0,0))
 b5:u.heap[w.heap.size+1]?=some (.cells #[.int .i64 0] 34 (0,0))
 iy:Below w.heap.size w u
def dw (w:World):World:=(w.alloc (.cells #[.slice none 0 0,.slice none 0 0,.slice none 0 0,.slice none 0 0,.slice none 0 0,.slice none 0 0,.slice none 0 0,.slice none 0 0,.slice none 0 0,.slice none 0 0] 33)).alloc (.cells #[.int .i64 0] 34)
theorem DI.start (w:World):DI w (dw w):=by
 have h1:(w.alloc (.cells #[.slice none 0 0,.slice none 0 0,.slice none 0 0,.slice none 0 0,.slice none 0 0,.slice none 0 0,.slice none 0 0,.slice none 0 0,.slice none 0 0,.slice none 0 0] 33)).heap[w.heap.size]?=some (.cells #[.slice none 0 0,.slice none 0 0,.slice none 0 0,.slice none 0 0,.slice none 0 0,.slice none 0 0,.slice none 0 0,.slice none 0 0,.slice none 0 0,.slice none 0 0] 33 (0,0)):=fB w _ rfl;have h2:(dw w).heap[w.heap.size+1]?=some (.cells #[.int .i64 0] 34 (0,0)):=fB _ _ (by simp);exact ⟨qx h1,h2,cu (aD _ _) (aD _ _)⟩
theorem DI.on {w u u':World} (h:DI w u) (hb:Below u.heap.size u u'):DI w u' :=
 ⟨by rw [hb.block _ (Array.getElem?_eq_some_iff.1 h.b4).1];exact h.b4,by rw [hb.block _ (Array.getElem?_eq_some_iff.1 h.b5).1];exact h.b5,cu h.iy hb⟩
theorem vh {w:World} {b:Nat} {t:TypeId} {cs:Array Value} (h:w.heap[b]?=some (.cells cs t (0,0))) (hc:cs.size=10):w.there b 0 10:=fun j hj=>by
 refine ⟨?_,?_⟩
 ·unfold World.cell?;rw [h,Nat.zero_add];show (cs[j]?).isSome=true;rw [Array.getElem?_eq_getElem (by omega)];rfl
 ·unfold World.frozen?;rw [h];simp
theorem nI:(Tryz.prog.info? 33).map (·.size)=some 10:=by kernel_rfl
end ai
theorem NT (k:Int) (w:World):(Instr.typeAssert (.iface 34 (.int .i64 k)) 20 34 true).run Tryz.prog w=.ok (.tuple #[.int .i64 k,.bool true]) w:=by
 kernel_rfl
theorem NU (p q:Nat) (y:Value) (k:Int) (older:List PanicEntry) (w:World) (cs:Array Value) (hp:w.heap[p]?=some (.cells cs 33 (0,0))) (hc:cs.size=10) (hq:w.cell? ⟨q,0,none⟩=some y) (fq:w.frozen? ⟨q,0,none⟩=false) (hpq:q≠p) (W2:World) (aX:w.setCells p 0 (#[.slice none 0 0,.slice none 0 0,.slice none 0 0,.slice none 0 0,.slice none 0 0,.slice none 0 0,.slice none 0 0,.slice none 0 0,.slice none 0 0,.slice none 0 0]:Array Value).toList=W2) :
  CallsD Tryz.prog 10 #[.pointer (some ⟨p,0,none⟩),.pointer (some ⟨q,0,none⟩)] (.panicking ({ v:=.iface 34 (.int .i64 k),recovered:=false } :: older)) w fun e u' w' =>
   e=.returned (.tuple #[])/\u'=.panicking ({ v:=.iface 34 (.int .i64 k),recovered:=true } :: older)/\w'=W2.setCell ⟨q,0,none⟩ (.int .i64 k):=by
 have hth:=vh hp hc;have hall:(#[.slice none 0 0,.slice none 0 0,.slice none 0 0,.slice none 0 0,.slice none 0 0,.slice none 0 0,.slice none 0 0,.slice none 0 0,.slice none 0 0,.slice none 0 0]:Array Value).all (·.oneCell')=true:=by simp [Value.oneCell']
 have hq':W2.cell? ⟨q,0,none⟩=some y:=by rw [<- aX,World.cell?_of_block (w:=w) (jA p q hpq _ 0 w)];exact hq
 have VD:W2.frozen? ⟨q,0,none⟩=false:=by rw [<- aX,World.frozen?_of_block (w:=w) (jA p q hpq _ 0 w)];exact fq
 have HW2:=aa aX;clear aX;refine callsD_of_wpS Tryz.func10 rfl fun c₀ cs hu=>?_;apply wpS_seq;apply wpS_region;simp [wpOpsS,go_sem,recoverD,hu,Tryz.ntmps10,Exit.thenS,NT];apply wpS_seq;apply wpS_region;simp [wpOpsS,go_sem,Exit.thenS];refine wpS_cond (t:=true) (by simp [Act.eval,Array.replicate]) ?_;simp only [if_true];refine wpS_of_wp ?_;go_wp2_with (refine wpList_store_mid rfl 33 (.tmp 0) (.tmp 10) rfl p 0 #[.slice none 0 0,.slice none 0 0,.slice none 0 0,.slice none 0 0,.slice none 0 0,.slice none 0 0,.slice none 0 0,.slice none 0 0,.slice none 0 0,.slice none 0 0] (by simp [Act.eval,Array.replicate]) (by simp [Act.eval,Array.replicate]) hth nI hall ?_;rw [HW2.out]);simp [bodyPostS,results,Tryz.results10]
theorem NV (p q:Nat) (w:World) :
  CallsD Tryz.prog 10 #[.pointer (some ⟨p,0,none⟩),.pointer (some ⟨q,0,none⟩)] .returning w fun e u' w'=>e=.returned (.tuple #[])/\u'=.returning/\w'=w:=by
 refine callsD_of_wpS Tryz.func10 rfl fun c₀ cs hu=>?_;apply wpS_seq;apply wpS_region;simp [wpOpsS,go_sem,recoverD,hu,Tryz.ntmps10,Exit.thenS,NW];apply wpS_seq;apply wpS_region;simp [wpOpsS,go_sem,Exit.thenS];refine wpS_cond (t:=false) (by simp [Act.eval,Array.replicate]) ?_;simp only [Bool.false_eq_true,if_false];refine wpS_of_wp (wp_skip ?_);cases c₀;simp_all [bodyPostS,results,Tryz.results10]
end Go.Proofs.YtegboefdolfdgaaGreatDoor
