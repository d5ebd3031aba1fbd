/- Texts that the claim needs. -/
import Derived.Test.YtcfifbgemfladaaGreatDoorQDPa22
import Derived.Test.YtcfifbgemfladaaGreatDoorQDPa21
import Derived.Deep.MidRow
namespace Go.Proofs.YtcfifbgemfladaaGreatDoor
open Go.RowKit au aI Go.Proofs.Tryz
set_option linter.unusedVariables false
set_option maxRecDepth 100000
set_option maxHeartbeats 4000000
namespace aI
theorem aaW {s:AH} {en i n:Nat} {l:IL 81} {j m:Nat} (hn:n<=65536) (h:wh s en i n=.ok (l,j,m)):m<=65536:=by
 unfold wh at h;obtain ⟨a,i1,k1,h1,h2⟩:=kP h;by_cases h3:a.2=11
 ·rw [AE h3] at h2;cases h2;exact Gt s en 81 0 _ _ _ _ _ hn h1
 rw [AD h3] at h2;cases h2
theorem OD {s:AH} {en i n:Nat} {x:List Int × IL 81} {j m:Nat} (hn:n<=65536) (h:ym s en i n=.ok (x,j,m)):m<=65536:=by
 unfold ym at h;obtain ⟨z,j1,n1,h1,h2⟩:=kP h;obtain ⟨y,j2,n2,h3,h4⟩:=kP h2;have e1:=(vF h1).2
 have h5:n2=m:=by
  by_cases hm:j2=j1+z.toNat
  ·rw [AE hm] at h4;cases h4;rfl
  rw [AD hm] at h4;cases h4
 unfold xq at h3;obtain ⟨l,j3,n3,h6,h7⟩:=kP h3;obtain ⟨b,j4,n4,h8,h9⟩:=kP h7;have e2:=(vF h6).2;cases h9;rw [<- h5];exact aaW (by omega) h8
def vE (s:AH) (en:Nat):Nat->List (List Int × IL 81)->Nat->Nat->R2 (List (List Int × IL 81))
 | 0,l,i,n=>.ok (l,i,n)
 | r+1,l,i,n=>fU (ym s en i n) λx j m=>vE s en r (l++[x]) j m
theorem JC (s:AH) (en r:Nat) (l:List (List Int × IL 81)) (i n:Nat):vE s en (r+1) l i n=fU (ym s en i n) λx j m=>vE s en r (l++[x]) j m:=rfl
def qU (s:AH) (en L i n:Nat):R2 (List (List Int × IL 81)):=fU (lift (rc s en i) n) λz j m=>if z=(L:Int) then vE s en L [] j m else .error 50
theorem RS.cod {w0 w:AG} {p:Nat} {s:AH} {c:Nat->Value} {en k i n:Nat} (h:RS w0 p s c en k i n w) (m:Nat):RS w0 p s c en m i n (w.setCell ⟨p,13,none⟩ (.int .i64 m)) :=
 ⟨h.below.setCell h.base _,h.base,heap_setCell_same w p 13 _ _ _ h.blk,h.le,h.len,h.big⟩
def Kr (w0:AG) (p:Nat) (s:AH) (c:Nat->Value) (en g ob L:Nat) (ty:Nat->Int) (w:AG) (x:R2 (List (List Int × IL 81))) (e:Ending) (w':AG):Prop :=
 match x with
 | .ok (fs,j,m)=>e=.returned (.tuple #[])/\(RS w0 p s c en L j m w'/\fs.length=L/\(0<L->∃a b,FB g ob L ty a b w'/\∀q x,fs[q]?=some x->aU w' (Since w.heap.size w' none) (a q) x.1/\az w' (Since w.heap.size w' none) 81 (b q) x.2))/\jB p g w w'
 | .error z=>e=.panicked (gave z)/\AS w0 w'
structure KR (p br:Nat) (W w:AG):Prop where
 but:But p W w
 hr:w.heap[br]?=some (.cells #[.pointer (some ⟨p,0,none⟩)] 77 (0,0))
theorem KR.on {p br:Nat} {W w w':AG} (h:KR p br W w) (nH:br≠p) (hb:But p w w'):KR p br W w':=⟨h.but.trans hb,Cn hb nH h.hr⟩
def G2 (RD:Int × Nat->AG->Prop) (X:Option (Int × Nat)) (p:Nat):Nat->Value->AG->Prop
 | 0,v,_=>v=.pointer (some ⟨p,0,none⟩)
 | 1,v,_=>v=.pointer (some ⟨p,0,none⟩)
 | 2,v,w=>match X with
  | some x=>v=.int .i64 x.1/\RD x w
  | none=>False
 | 3,v,_=>v=.pointer (some ⟨p,0,none⟩)
 | _,v,_=>v=.pointer (some ⟨p,13,none⟩)
def eF (p:Nat) (z:Int) (L:Nat) (o:Option Addr) (cap:Nat):Nat->Value
 | 0=>.pointer (some ⟨p,0,none⟩)
 | 1=>.pointer (some ⟨p,0,none⟩)
 | 2=>.pointer (some ⟨p,13,none⟩)
 | 3=>.int .i64 z
 | 4=>.pointer (some ⟨p,0,none⟩)
 | 5=>.pointer (some ⟨p,0,none⟩)
 | 6=>.pointer (some ⟨p,3,none⟩)
 | 7=>.pointer (some ⟨p,5,none⟩)
 | 8=>.slice o L cap
 | 9=>.int .i64 (L:Int)
 | _=>.bool (z==(L:Int))
structure LF (w0:AG) (p:Nat) (s:AH) (c:Nat->Value) (en g ob L:Nat) (ty:Nat->Int) (w:AG) (j n q:Nat) (fs:List (List Int × IL 81)) (a b:Nat->Value) (jq nq:Nat) (wr:AG):Prop where
 rs:RS w0 p s c en L jq nq wr
 few:nq<=65536
 len:fs.length=q
 run:vE s en L [] j n=vE s en (L-q) fs jq nq
 fb:0<L->FB g ob L ty a b wr/\∀q' x,fs[q']?=some x->aU wr (Since w.heap.size wr none) (a q') x.1/\az wr (Since w.heap.size wr none) 81 (b q') x.2
 bu:jB p g w wr
 hr:wr.heap[w.heap.size]?=some (.cells #[.pointer (some ⟨p,0,none⟩)] 77 (0,0))
theorem LF.on {w0:AG} {p:Nat} {s:AH} {c:Nat->Value} {en g ob L:Nat} {ty:Nat->Int} {w:AG} {j n q:Nat} {fs:List (List Int × IL 81)} {a b:Nat->Value} {jq nq:Nat} {wr wr':AG} (h:LF w0 p s c en g ob L ty w j n q fs a b jq nq wr) (hb:AS wr wr'):LF w0 p s c en g ob L ty w j n q fs a b jq nq wr' :=
 ⟨h.rs.on hb,h.few,h.len,h.run,λh0=>⟨(h.fb h0).1.keep (hb.block g (h.fb h0).1.lt),λq' x hx=>⟨((h.fb h0).2 q' x hx).1.keep (pO hb),az.keep (pO hb) _ _ _ ((h.fb h0).2 q' x hx).2⟩⟩,h.bu.trans (jB.of (But.of p hb)),Bo hb h.hr⟩
end aI
theorem aaX (w0:AG) (p:Nat) (s:AH) (c:Nat->Value) (en k i n g ob L cap:Nat) (o:Option Addr) (ty:Nat->Int) (a b:Nat->Value) (w:AG) (h:RS w0 p s c en k i n w) (hn:n<=65536) (hc:c 2=.slice o L cap)
  (hf:0<L->o=some ⟨g,ob,none⟩/\FB g ob L ty a b w/\g≠p/\w0.heap.size<=g) :
  Calls prog 86 #[.pointer (some ⟨p,0,none⟩)] w (Kr w0 p s c en g ob L ty w (qU s en L i n)):=by
 obtain ⟨w1,hw1⟩:∃w1,w1=w.alloc (.cells #[.pointer (some ⟨p,0,none⟩)] 77):=⟨_,rfl⟩;have hb1:AS w w1:=by rw [hw1];exact aQ w _
 have hr1:w1.heap[w.heap.size]?=some (.cells #[.pointer (some ⟨p,0,none⟩)] 77 (0,0)):=by rw [hw1];exact mV _ _ rfl
 have hd:AS w1 w1.drew:=⟨rfl,rfl,rfl,aC _,λ_ _=>rfl⟩;have hpw:=h.lt;have hlen:=h.len;have nH:w.heap.size≠p:=by omega
 have HL:=λu hu=>aa (tN w0 p s c en k i n u hu);have HK:Hid (KR p w.heap.size w w1.drew):=aa ⟨But.of p (dM hb1 hd),Bo hd hr1⟩;have HR:=aa ((h.on hb1).on hd);have HF:=aa hf;have HW:=aa hw1;generalize hX:rc s en i=X at HL;clear h hf hb1 hr1 hd hw1;go_enter func86,ntmps86;go_wp2_with fail;rw [<- HW.out];clear HW;refine ai.CS 5 (λi=>4+i) (pI p) (KR p w.heap.size w) (λj u=>j=2->RS w0 p s c en k i n u) (G2 (λx u=>RS w0 p s c en k x.2 n u) (match X with | .ok x=>some x | .error _=>none) p) (by kernel_rfl) (by kernel_rfl) (λi j h1 h2 h=>by have h':4+i=4+j:=h;omega) (ai.lJ (size:=41) (by kernel_rfl)) ?tQ ?hres ?hK ?hstep ?cO HK.out (λj hj e=>HR.out)
 case hK=>exact λk' u u' hk cA hg=>cA.on nH (Ks (Kt p k') hg)
 case hres =>
  intro i' k' u u' hi hk hne wm hg e;subst e
  have:pI p k'=none:=by unfold pI;rw [AD (by omega)]
  rw [this] at hg;exact (wm rfl).on (yn hg)
 case tQ =>
  intro i' k' v u u' hi hk hne cA hG hg
  match i',hi with
  | 0,_=>exact hG
  | 1,_=>exact hG
  | 2,_ =>
   have:pI p k'=none:=by unfold pI;rw [AD (by omega)]
   rw [this] at hg;cases X with
   | error z=>exact hG
   | ok x=>exact ⟨hG.1,RS.on hG.2 (yn hg)⟩
  | 3,_=>exact hG
  | 4,_=>exact hG
 case hstep =>
  intro j o1 a1 u hj ho hF cA wm hd;have c1:=xu cA.hr;have q0:a1.tmps[1]?.getD undef=.pointer (some ⟨w.heap.size,0,none⟩):=ai.aB (hF.eval 1 (λi hi=>by show 4+i≠1;omega));have hcase:j=0\/j=1\/j=2\/j=3\/j=4:=by omega
  clear hj;rcases hcase with rfl|rfl|rfl|rfl|rfl
  all_goals (simp only [gz,gU,gV,gN] at ho;subst ho;refine ai.aO λK hK=>?_)
  ·go_simp;exact hK _ _ ⟨_,rfl,uN (AC _ _),rfl⟩
  ·go_simp;exact hK _ _ ⟨_,rfl,uN (AC _ _),rfl⟩
  ·have q3:a1.tmps[5]?.getD undef=.pointer (some ⟨p,0,none⟩):=ai.aB (hd 1 (by decide));go_simp;refine (HL u (wm rfl)).out.mono ?_;intro e u2 hr2;cases X with
   | error z =>
    obtain ⟨rfl,hb⟩:=hr2;refine ⟨hF.defers,?_⟩;unfold qU;rw [hX];exact ⟨rfl,hb⟩
   | ok x =>
    obtain ⟨l,j⟩:=x;obtain ⟨⟨v,rfl,hv⟩,h1,h2⟩:=hr2;exact hK _ _ ⟨_,rfl,h2,hv,h1⟩
  ·have q2:a1.tmps[4]?.getD undef=.pointer (some ⟨p,0,none⟩):=ai.aB (hd 0 (by decide));go_simp;exact hK _ _ ⟨_,rfl,uN (AC _ _),rfl⟩
  have q2:a1.tmps[7]?.getD undef=.pointer (some ⟨p,0,none⟩):=ai.aB (hd 3 (by decide));go_simp;exact hK _ _ ⟨_,rfl,uN (AC _ _),rfl⟩
 case cO =>
  intro a1 u hF cA hG;have zB:=hG 2 (by omega);cases X with
  | error z=>exact absurd zB id
  | ok x =>
   obtain ⟨z,j⟩:=x;obtain ⟨hv,hrs⟩:=zB;have hv:a1.eval (.tmp 6)=.int .i64 z:=hv;have hrs:RS w0 p s c en k j n u:=hrs;have g4:a1.eval (.tmp 8)=.pointer (some ⟨p,13,none⟩):=hG 4 (by omega);have hrc:=rW hlen hX;obtain ⟨z,rfl⟩:=Int.eq_ofNat_of_zero_le hrc.2.2.1;obtain ⟨xl,hxl,rfl,hev⟩:=hF.lit (by simp);obtain ⟨x0,x1,x2,x3,x4,rfl⟩:=Ku hxl;have e2:=hev 2 (by omega);have e4:=hev 4 (by omega);simp only [nP,nQ] at e2 e4;rw [show (4+4)=8 from rfl,g4] at e4;rw [show (4+2)=6 from rfl,hv] at e2;subst e4 e2;clear hev hxl hF hG g4 hv HL HR HK;have c1:=hrs.cell 13 _ rfl;have f1:=hrs.ax 13;obtain ⟨W1,hW1⟩:∃W1,W1=u.setCell ⟨p,13,none⟩ (.int .i64 (z:Int)):=⟨_,rfl⟩;have qD:RS w0 p s c en z j n W1:=by rw [hW1];exact hrs.cod z
   have hK1:KR p w.heap.size w W1:=by rw [hW1];exact cA.on nH (But.set p 13 u _)
   have mS:Hid (qU s en L i n=if (z:Int)=(L:Int) then vE s en L [] j n else .error 50):=aa (by unfold qU;rw [hX];rfl);have HW1:=aa hW1;have HR1:=aa qD;have bJ:=aa hK1;clear qD hK1 hrs cA hW1 hX;simp only [ja,jb,iw,gP,iy,fN];go_wp2_with fail;rw [<- HW1.out];clear HW1;have cb:=xu bJ.out.hr;have c13:=HR1.out.cell 13 _ rfl;have c5:W1.cell? ⟨p,5,none⟩=some (c 2):=HR1.out.cell 5 _ rfl;rw [hc] at c5;by_cases hz:z=L
   ·subst hz;have dq:((z:Int)==(z:Int))=true:=by simp
    go_quiet (first|(go_at_call 21;exact Calls.quiet_of_same (dA _ _)))
    have Ga:=aa (mE W1 nq);have yo:Hid (LF w0 p s c en g ob z ty w j n 0 [] a b j n (W1.drewN nq)):=aa (LF.on (wr:=W1) ⟨HR1.out,hn,rfl,rfl,λh0=>⟨(HF.out h0).2.1.keep (bJ.out.but.block g (HF.out h0).2.1.lt (by simpa using (HF.out h0).2.2.1)),λq' x hx=>by simp at hx⟩,jB.of bJ.out.but,bJ.out.hr⟩ Ga.out);generalize W1.drewN nq=W2 at *;clear Ga cb c13 c5 HR1 bJ;have cb:=xu yo.out.hr;have c5:W2.cell? ⟨p,5,none⟩=some (c 2):=yo.out.rs.cell 5 _ rfl;rw [hc] at c5;go_wp2_with fail;clear cb c5;go_loopw [27] (λu wr=>∃(q:Nat) (fs:List (List Int × IL 81)) (a b:Nat->Value) (jq nq:Nat),u=.int .i64 q/\q<=z/\Hid (LF w0 p s c en g ob z ty w j n q fs a b jq nq wr)) (λu _=>z-(RowKit.intOf u).toNat)
    case atStart=>exact ⟨0,[],a,b,j,n,rfl,by omega,yo⟩
    case round =>
     clear yo;obtain ⟨q,fs,a2,b2,jq,nq,rfl,hq,HL⟩:=hrel;by_cases hgo:q<z
     ·obtain ⟨rfl,PR,uO,hg0⟩:=HF.out (by omega);have BX:=PR.lt;have cb:=xu HL.out.hr;have c5:wr.cell? ⟨p,5,none⟩=some (c 2):=HL.out.rs.cell 5 _ rfl;rw [hc] at c5;have hwp:=HL.out.bu.size;obtain ⟨W3,hW3⟩:∃W3,W3=wr.alloc (.cells #[.pointer (some ⟨g,ob+q*3,none⟩)] 133):=⟨_,rfl⟩;have hb3:AS wr W3:=by rw [hW3];exact aQ wr _
      have hx3:W3.heap[wr.heap.size]?=some (.cells #[.pointer (some ⟨g,ob+q*3,none⟩)] 133 (0,0)):=by
       rw [hW3];exact mV _ _ rfl
      have nk:=aa (HL.out.on hb3);have hs3:=hb3.size;have hl3:wr.heap.size<W3.heap.size:=(gX.1 hx3).1;have HZ:=aa (aaY w0 p s c en z jq nq g ob z ty a2 b2 q w.heap.size wr.heap.size W3 nk.out.rs nk.out.few (nk.out.fb (by omega)).1 hgo uO hg0 (by omega) (by omega) nH (by omega) nk.out.hr hx3);have HW3:=aa hW3;have DW:=aa hx3;have hrun:=nk.out.run;have hr1:z-q=(z-(q+1))+1:=by omega
      rw [hr1,JC] at hrun;generalize hY:ym s en jq nq=Y at HZ hrun;have PT:=aa hrun;clear hrun hW3 hx3 hb3 PR;have cb3:=xu nk.out.hr;go_upto_region 7 with fail;rw [<- HW3.out];clear HW3 cb c5;have yo:=HL;clear HL;go_wp2_with fail;refine HZ.out.mono ?_;intro e w4 hr4;cases Y with
      | error zz =>
       obtain ⟨rfl,hb⟩:=hr4;refine ⟨rfl,?_⟩;rw [mS.out,AE trivial,PT.out];exact ⟨rfl,hb⟩
      | ok x =>
       obtain ⟨x,j4,n4⟩:=x;obtain ⟨rfl,⟨vl,vb,h4,f4,i4,a4⟩,b4⟩:=hr4;have hb4:w.heap.size<=W3.heap.size:=by omega
       have xw:Hid (LF w0 p s c en g ob z ty w j n (q+1) (fs++[x]) (upd a2 q vl) (upd b2 q vb) j4 n4 w4):=aa (by
        have hkp:∀k',Since w.heap.size W3 none k'->Since w.heap.size w4 none k'/\w4.heap[k']?=W3.heap[k']?:=λk' hk'=>⟨⟨hk'.1,jg hk'.2.1 b4.size,by simp⟩,b4.block k' hk'.2.1 (by have:=hk'.1;omega) (by have:=hk'.1;omega)⟩;have hk2:∀k',Since W3.heap.size w4 none k'->Since w.heap.size w4 none k'/\w4.heap[k']?=w4.heap[k']?:=λk' hk'=>⟨⟨eU hb4 hk'.1,hk'.2⟩,rfl⟩;refine ⟨h4,OD nk.out.few hY,by rw [aT,nk.out.len];rfl,PT.out,λh0=>⟨f4,λq' y hy=>?_⟩,nk.out.bu.trans b4,b4.heap nH (by omega) nk.out.hr⟩;by_cases hqq:q'=q
        ·subst hqq;rw [uV (by rw [nk.out.len];omega),nk.out.len,Nat.sub_self] at hy;have hy:x=y:=by simpa using hy
         subst hy;unfold upd;rw [AE rfl,AE rfl];exact ⟨i4.keep hk2,az.keep hk2 _ _ _ a4⟩
        have hlt:q'<fs.length:=by
         have:=(gq.1 hy).1
         rw [aT,nk.out.len] at this;rw [nk.out.len];simp at this;omega
        rw [vB hlt] at hy;unfold upd;rw [AD hqq,AD hqq]
        have:=(nk.out.fb h0).2 q' y hy
        exact ⟨this.1.keep hkp,az.keep hkp _ _ _ this.2⟩)
       clear h4 f4 i4 a4 b4 HZ nk yo cb3 DW;go_wp2;go_roundw
       case rel=>exact ⟨q+1,_,_,_,j4,n4,by go_num,by omega,xw⟩
       case measure=>simp [RowKit.intOf];omega
     obtain rfl:q=z:=by omega
     have Kv:Hid (Kr w0 p s c en g ob q ty w (qU s en q i n) (.returned (.tuple #[])) wr):=aa (by
      rw [mS.out,AE trivial,HL.out.run,Nat.sub_self];exact ⟨rfl,⟨HL.out.rs,HL.out.len,λh0=>⟨a2,b2,HL.out.fb h0⟩⟩,HL.out.bu⟩)
     clear HL;go_wp2;go_end0;exact Kv.out
   have hzi:¬ (z:Int)=(L:Int):=by omega
   refine ai.oQ 11 (λi=>9+i) (λj v _=>v=eF p (z:Int) L o cap j) (by kernel_rfl) (by kernel_rfl) (λi j h1 h2 h=>by have h':9+i=9+j:=h;omega) (ai.lJ (size:=41) (by kernel_rfl)) (λi v w w' _ h _=>h) ?aaZ ?aa0
   case aaZ =>
    intro j o1 a1 u hj ho hF2 hB hd;have f1:a1.tmps[1]?.getD undef=.pointer (some ⟨w.heap.size,0,none⟩):=ai.aB (hF2.eval 1 (λi hi=>by show 9+i≠1;omega));have db:=ak hB cb;have d13:=ak hB c13;have d5:=ak hB c5;have hcase:j=0\/j=1\/j=2\/j=3\/j=4\/j=5\/j=6\/j=7\/j=8\/j=9\/j=10:=by omega
    clear hj cb c13 c5;rcases hcase with rfl|rfl|rfl|rfl|rfl|rfl|rfl|rfl|rfl|rfl|rfl
    all_goals (simp only [gz,gU,gV,gN] at ho;subst ho;refine ai.aO λK hK=>?_)
    ·go_simp;exact hK _ _ ⟨_,rfl,AC _ _,rfl⟩
    ·have q:a1.tmps[9]?.getD undef=.pointer (some ⟨p,0,none⟩):=ai.aB (hd 0 (by decide));go_simp;exact hK _ _ ⟨_,rfl,AC _ _,rfl⟩
    ·have q:a1.tmps[10]?.getD undef=.pointer (some ⟨p,0,none⟩):=ai.aB (hd 1 (by decide));go_simp;exact hK _ _ ⟨_,rfl,AC _ _,rfl⟩
    ·have q:a1.tmps[11]?.getD undef=.pointer (some ⟨p,13,none⟩):=ai.aB (hd 2 (by decide));go_simp;exact hK _ _ ⟨_,rfl,AC _ _,rfl⟩
    ·go_simp;exact hK _ _ ⟨_,rfl,AC _ _,rfl⟩
    ·have q:a1.tmps[13]?.getD undef=.pointer (some ⟨p,0,none⟩):=ai.aB (hd 4 (by decide));go_simp;exact hK _ _ ⟨_,rfl,AC _ _,rfl⟩
    ·have q:a1.tmps[14]?.getD undef=.pointer (some ⟨p,0,none⟩):=ai.aB (hd 5 (by decide));go_simp;exact hK _ _ ⟨_,rfl,AC _ _,rfl⟩
    ·have q:a1.tmps[15]?.getD undef=.pointer (some ⟨p,3,none⟩):=ai.aB (hd 6 (by decide));go_simp;exact hK _ _ ⟨_,rfl,AC _ _,rfl⟩
    ·have q:a1.tmps[16]?.getD undef=.pointer (some ⟨p,5,none⟩):=ai.aB (hd 7 (by decide));go_simp;exact hK _ _ ⟨_,rfl,AC _ _,rfl⟩
    ·have q:a1.tmps[17]?.getD undef=.slice o L cap:=ai.aB (hd 8 (by decide));go_simp;exact hK _ _ ⟨_,rfl,AC _ _,rfl⟩
    have q:a1.tmps[12]?.getD undef=.int .i64 (z:Int):=ai.aB (hd 3 (by decide));have q2:a1.tmps[18]?.getD undef=.int .i64 (L:Int):=ai.aB (hd 9 (by decide));have dq:((z:Int)==(L:Int))=false:=by simp;omega
    go_simp;exact hK _ _ ⟨_,rfl,AC _ _,dq.symm ▸ rfl⟩
   case aa0 =>
    intro a1 u hF2 hB hG;have dq:((z:Int)==(L:Int))=false:=by simp;omega
    have q:a1.tmps[19]?.getD undef=.bool false:=by rw [<- dq];exact ai.aB (hG 10 (by decide))
    simp only [iw,gP];refine wpList_plain rfl λK hK=>?_;go_simp;refine (iX _ _).mono ?_;rintro e u2 ⟨rfl,rfl⟩;refine ⟨hF2.defers,?_⟩;rw [mS.out,AD hzi];exact ⟨rfl,HR1.out.below.trans (hB.mono HR1.out.below.size)⟩
theorem Ye (w0:AG) (p:Nat) (s:AH) (c:Nat->Value) (en k i n g ob L cap:Nat) (o:Option Addr) (ty:Nat->Int) (a b:Nat->Value) (w:AG) (h:RS w0 p s c en k i n w) (hn:n<=65536) (hc:c 2=.slice o L cap)
  (hf:0<L->o=some ⟨g,ob,none⟩/\FB g ob L ty a b w/\g≠p/\w0.heap.size<=g) :
  Calls prog 51 #[.pointer (some ⟨p,0,none⟩),.int .i64 10] w (Kr w0 p s c en g ob L ty w (qU s en L i n)):=by
 have HC:=aa (aaX w0 p s c en k i n g ob L cap o ty a b w h hn hc hf);clear h hf;generalize qU s en L i n=R at HC ⊢;go_enter func51,ntmps51;go_wp2_with fail;refine HC.out.mono ?_;intro e u hr;cases R with
 | error z =>
  obtain ⟨rfl,hb⟩:=hr;exact ⟨rfl,rfl,hb⟩
 | ok v =>
  obtain ⟨fs,j,m⟩:=v;obtain ⟨rfl,hr⟩:=hr;have HR:=aa hr;clear hr HC;go_wp2;go_end0;exact ⟨rfl,HR.out⟩
end Go.Proofs.YtcfifbgemfladaaGreatDoor
namespace Go.Proofs.YtcfifbgemfladaaGreatDoor
open Go.RowKit au aI
set_option linter.unusedVariables false
namespace aI
structure EI (w u:AG):Prop where
 b4:u.heap[w.heap.size]?=some (.cells #[.slice none 0 0] 53 (0,0))
 b5:u.heap[w.heap.size+1]?=some (.cells #[.int .i64 0] 3 (0,0))
 b6:u.heap[w.heap.size+2]?=some (.cells #[.int .i64 0] 43 (0,0))
 bQ:AS w u
def ew (w:AG):AG:=((w.alloc (.cells #[.slice none 0 0] 53)).alloc (.cells #[.int .i64 0] 3)).alloc (.cells #[.int .i64 0] 43)
theorem EI.start (w:AG):EI w (ew w):=by
 have h1:(w.alloc (.cells #[.slice none 0 0] 53)).heap[w.heap.size]?=some (.cells #[.slice none 0 0] 53 (0,0)):=mV w _ rfl;have h2:((w.alloc (.cells #[.slice none 0 0] 53)).alloc (.cells #[.int .i64 0] 3)).heap[w.heap.size+1]?=some (.cells #[.int .i64 0] 3 (0,0)):=mV _ _ (by simp);have h3:(ew w).heap[w.heap.size+2]?=some (.cells #[.int .i64 0] 43 (0,0)):=mV _ _ (by simp);exact ⟨wT (wT h1),wT h2,h3,dM (dM (aQ _ _) (aQ _ _)) (aQ _ _)⟩
theorem EI.on {w u u':AG} (h:EI w u) (hb:AS u u'):EI w u' :=
 ⟨by rw [hb.block _ (gX.1 h.b4).1];exact h.b4,by rw [hb.block _ (gX.1 h.b5).1];exact h.b5,by rw [hb.block _ (gX.1 h.b6).1];exact h.b6,dM h.bQ hb⟩
def e3 (w u:AG) (v y x:Value):AG:=((u.setCell ⟨w.heap.size,0,none⟩ v).setCell ⟨w.heap.size+1,0,none⟩ y).setCell ⟨w.heap.size+2,0,none⟩ x
theorem EI.set {w u:AG} (h:EI w u) (v y x:Value):(e3 w u v y x).cell? ⟨w.heap.size,0,none⟩=some v/\(e3 w u v y x).cell? ⟨w.heap.size+1,0,none⟩=some y/\(e3 w u v y x).cell? ⟨w.heap.size+2,0,none⟩=some x/\AS w (e3 w u v y x):=by
 have a4:=heap_setCell_same u w.heap.size 0 _ _ v h.b4;have a5:=heap_setCell_same (u.setCell ⟨w.heap.size,0,none⟩ v) (w.heap.size+1) 0 _ _ y (by rw [Below.heap_setCell _ _ _ _ (by show w.heap.size+1≠w.heap.size;omega)];exact h.b5);have a6:=heap_setCell_same ((u.setCell ⟨w.heap.size,0,none⟩ v).setCell ⟨w.heap.size+1,0,none⟩ y) (w.heap.size+2) 0 _ _ x (by rw [Below.heap_setCell _ _ _ _ (by show w.heap.size+2≠w.heap.size+1;omega),Below.heap_setCell _ _ _ _ (by show w.heap.size+2≠w.heap.size;omega)];exact h.b6);refine ⟨?_,?_,?_,((h.bQ.setCell (aC _) v).setCell (by show w.heap.size<=w.heap.size+1;omega) y).setCell (by show w.heap.size<=w.heap.size+2;omega) x⟩
 ·unfold e3;rw [KD (by show w.heap.size≠w.heap.size+2;omega),KD (by show w.heap.size≠w.heap.size+1;omega)];unfold World.cell?;rw [a4];rfl
 ·unfold e3;rw [KD (by show w.heap.size+1≠w.heap.size+2;omega)];unfold World.cell?;rw [a5];rfl
 unfold e3;unfold World.cell?;rw [a6];rfl
end aI
end Go.Proofs.YtcfifbgemfladaaGreatDoor
namespace Go.Proofs.YtcfifbgemfladaaGreatDoor
open Go.RowKit au aI Go.Proofs.Tryz
set_option linter.unusedVariables false
set_option maxRecDepth 100000
set_option maxHeartbeats 1000000
namespace aI
theorem Nf (g:Nat) (t:TypeId):∀(vs:List Value) (o:Nat) (w:AG) (cur:Array Value),w.heap[g]?=some (.cells cur t (0,0))->o+vs.length<=cur.size ->
  (w.setCells g o vs).heap[g]?=some (.cells (cur.toList.take o++vs++cur.toList.drop (o+vs.length)).toArray t (0,0))
 | [],o,w,cur,h,_=>by simpa [World.setCells] using h
 | v :: r,o,w,cur,h,hl=>by
  simp only [ik] at hl;have h1:=Nf g t r (o+1) (w.setCell ⟨g,o,none⟩ v) (cur.setIfInBounds o v) (heap_setCell_same w g o cur t v h) (by rw [Array.size_setIfInBounds];omega);rw [World.setCells,h1,Array.toList_setIfInBounds];have hs:o<cur.toList.length:=by rw [Array.length_toList];omega
  have e1:(cur.toList.set o v).take (o+1)=cur.toList.take o++[v]:=by
   rw [List.take_add_one,List.take_set_of_le (aC o),List.getElem?_set_self hs];rfl
  have e2:(cur.toList.set o v).drop (o+1+r.length)=cur.toList.drop (o+1+r.length):=List.drop_set_of_lt (by omega);rw [e1,e2];simp only [ik,bw,iy,fN];rw [show o+1+r.length=o+(r.length+1) by omega]
theorem wR (g k:Nat) (hk:k≠g):∀(vs:List Value) (o:Nat) (w:AG),(w.setCells g o vs).heap[k]?=w.heap[k]?
 | [],_,_=>rfl
 | v :: r,o,w=>by rw [World.setCells,wR g k hk r,Below.heap_setCell _ _ _ _ (by exact hk)]
theorem Ng (g:Nat):∀(vs:List Value) (o:Nat) (w:AG),(w.setCells g o vs).heap.size=w.heap.size
 | [],_,_=>rfl
 | v :: r,o,w=>by rw [World.setCells,Ng g r];simp
theorem Dk (g:Nat):∀(vs:List Value) (o:Nat) (w:AG),But g w (w.setCells g o vs)
 | [],_,w=>But.refl _ _
 | v :: r,o,w=>(But.set g o w v).trans (Dk g r (o+1) _)
theorem I7 {w:AG} {b:Nat} {t:TypeId} {cs vs:Array Value} (h:w.heap[b]?=some (.cells cs t (0,0))) (hc:cs.size=10) (hv:vs.size=10):(w.setCells b 0 vs.toList).heap[b]?=some (.cells vs t (0,0)):=by
 rw [Nf b t vs.toList 0 w cs h (by simp;omega)];have hd:List.drop 10 cs.toList = []:=BJ (by simp [hc]);simp [hv,hd]
structure DI (w u:AG):Prop where
 b4:u.heap[w.heap.size]?=some (.cells #[.slice none 0 0,.slice none 0 0,.slice none 0 0,.slice none 0 0,.slice none 0 0,.slice none 0 0,.slice none 0 0,.slice none 0 0,.slice none 0 0,.slice none 0 0] 32 (0,0))
 b5:u.heap[w.heap.size+1]?=some (.cells #[.int .i64 0] 43 (0,0))
 bQ:AS w u
def dw (w:AG):AG:=(w.alloc (.cells #[.slice none 0 0,.slice none 0 0,.slice none 0 0,.slice none 0 0,.slice none 0 0,.slice none 0 0,.slice none 0 0,.slice none 0 0,.slice none 0 0,.slice none 0 0] 32)).alloc (.cells #[.int .i64 0] 43)
theorem DI.start (w:AG):DI w (dw w):=by
 have h1:(w.alloc (.cells #[.slice none 0 0,.slice none 0 0,.slice none 0 0,.slice none 0 0,.slice none 0 0,.slice none 0 0,.slice none 0 0,.slice none 0 0,.slice none 0 0,.slice none 0 0] 32)).heap[w.heap.size]?=some (.cells #[.slice none 0 0,.slice none 0 0,.slice none 0 0,.slice none 0 0,.slice none 0 0,.slice none 0 0,.slice none 0 0,.slice none 0 0,.slice none 0 0,.slice none 0 0] 32 (0,0)):=mV w _ rfl;have h2:(dw w).heap[w.heap.size+1]?=some (.cells #[.int .i64 0] 43 (0,0)):=mV _ _ (by simp);exact ⟨wT h1,h2,dM (aQ _ _) (aQ _ _)⟩
theorem DI.on {w u u':AG} (h:DI w u) (hb:AS u u'):DI w u' :=
 ⟨by rw [hb.block _ (gX.1 h.b4).1];exact h.b4,by rw [hb.block _ (gX.1 h.b5).1];exact h.b5,dM h.bQ hb⟩
theorem F7 {w:AG} {b:Nat} {t:TypeId} {cs:Array Value} (h:w.heap[b]?=some (.cells cs t (0,0))) (hc:cs.size=10):w.there b 0 10:=λj hj=>by
 refine ⟨?_,?_⟩
 ·unfold World.cell?;rw [h,Nat.zero_add];show (cs[j]?).isSome=true;rw [wU (by omega)];rfl
 unfold World.frozen?;rw [h];simp
theorem Dl:(prog.info? 32).map (·.size)=some 10:=by kernel_rfl
end aI
theorem Ws (k:Int) (w:AG):(Instr.typeAssert (.iface 43 (.int .i64 k)) 20 43 true).run prog w=.ok (.tuple #[.int .i64 k,.bool true]) w:=by
 kernel_rfl
theorem Wt (p q:Nat) (y:Value) (k:Int) (older:List PanicEntry) (w:AG) (cs:Array Value) (hp:w.heap[p]?=some (.cells cs 32 (0,0))) (hc:cs.size=10) (hq:w.cell? ⟨q,0,none⟩=some y) (fq:w.frozen? ⟨q,0,none⟩=false) (hpq:q≠p) (W2:AG) (gY:w.setCells p 0 (#[.slice none 0 0,.slice none 0 0,.slice none 0 0,.slice none 0 0,.slice none 0 0,.slice none 0 0,.slice none 0 0,.slice none 0 0,.slice none 0 0,.slice none 0 0]:Array Value).toList=W2) :
  CallsD prog 20 #[.pointer (some ⟨p,0,none⟩),.pointer (some ⟨q,0,none⟩)] (.panicking ({ v:=.iface 43 (.int .i64 k),recovered:=false } :: older)) w λe u' w' =>
   e=.returned (.tuple #[])/\u'=.panicking ({ v:=.iface 43 (.int .i64 k),recovered:=true } :: older)/\w'=W2.setCell ⟨q,0,none⟩ (.int .i64 k):=by
 have hth:=F7 hp hc;have hall:(#[.slice none 0 0,.slice none 0 0,.slice none 0 0,.slice none 0 0,.slice none 0 0,.slice none 0 0,.slice none 0 0,.slice none 0 0,.slice none 0 0,.slice none 0 0]:Array Value).all (·.oneCell')=true:=by simp [Value.oneCell']
 have hq':W2.cell? ⟨q,0,none⟩=some y:=by rw [<- gY,World.cell?_of_block (w:=w) (wR p q hpq _ 0 w)];exact hq
 have fq':W2.frozen? ⟨q,0,none⟩=false:=by rw [<- gY,World.frozen?_of_block (w:=w) (wR p q hpq _ 0 w)];exact fq
 have HW2:=aa gY;clear gY;refine callsD_of_wpS func20 rfl λc₀ cs hu=>?_;apply wpS_seq;apply wpS_region;simp [wpOpsS,go_sem,recoverD,hu,ntmps20,Exit.thenS,Ws];apply wpS_seq;apply wpS_region;simp [wpOpsS,go_sem,Exit.thenS];refine wpS_cond (t:=true) (by simp [Act.eval,Array.replicate]) ?_;simp only [if_true];refine wpS_of_wp ?_;go_wp2_with (refine wpList_store_mid rfl 32 (.tmp 0) (.tmp 10) rfl p 0 #[.slice none 0 0,.slice none 0 0,.slice none 0 0,.slice none 0 0,.slice none 0 0,.slice none 0 0,.slice none 0 0,.slice none 0 0,.slice none 0 0,.slice none 0 0] (by simp [Act.eval,Array.replicate]) (by simp [Act.eval,Array.replicate]) hth Dl hall ?_;rw [HW2.out]);simp [bodyPostS,results,results20]
theorem Wu (p q:Nat) (w:AG) :
  CallsD prog 20 #[.pointer (some ⟨p,0,none⟩),.pointer (some ⟨q,0,none⟩)] .returning w λe u' w'=>e=.returned (.tuple #[])/\u'=.returning/\w'=w:=by
 refine callsD_of_wpS func20 rfl λc₀ cs hu=>?_;apply wpS_seq;apply wpS_region;simp [wpOpsS,go_sem,recoverD,hu,ntmps20,Exit.thenS,Wv];apply wpS_seq;apply wpS_region;simp [wpOpsS,go_sem,Exit.thenS];refine wpS_cond (t:=false) (by simp [Act.eval,Array.replicate]) ?_;simp only [Bool.false_eq_true,if_false];refine wpS_of_wp (wp_skip ?_);cases c₀;simp_all [bodyPostS,results,results20]
end Go.Proofs.YtcfifbgemfladaaGreatDoor
