/- Texts that the claim needs. -/
import Derived.Test.YtcfifbgemfladaaGreatDoorQDPa12
import Derived.Test.YtcfifbgemfladaaGreatDoorQDPa21
namespace Go.Proofs.YtcfifbgemfladaaGreatDoor
open Go.RowKit au aI Go.Proofs.Tryz
set_option linter.unusedVariables false
set_option maxRecDepth 100000
set_option maxHeartbeats 4000000
namespace aI
def FB (g ob L:Nat) (ty:Nat->Int) (a b:Nat->Value) (w:AG):Prop :=
 ∃cur:Array Value,w.heap[g]?=some (.cells cur 55 (0,0))/\∀j,j<L->cur[ob+j*3]?=some (.int .i64 (ty j))/\cur[ob+j*3+1]?=some (a j)/\cur[ob+j*3+2]?=some (b j)
section
variable {g ob L:Nat} {ty:Nat->Int} {a b:Nat->Value} {w w':AG}
theorem FB.cell (h:FB g ob L ty a b w) {j:Nat} (hj:j<L):w.cell? ⟨g,ob+j*3,none⟩=some (.int .i64 (ty j))/\w.cell? ⟨g,ob+j*3+1,none⟩=some (a j)/\w.cell? ⟨g,ob+j*3+2,none⟩=some (b j):=by
 obtain ⟨cur,h1,h2⟩:=h;unfold World.cell?;rw [h1];exact h2 j hj
theorem FB.ax (h:FB g ob L ty a b w) (o:Nat):w.frozen? ⟨g,o,none⟩=false:=by
 obtain ⟨cur,h1,h2⟩:=h;unfold World.frozen?;rw [h1];simp
theorem FB.lt (h:FB g ob L ty a b w):g<w.heap.size:=by
 obtain ⟨cur,h1,h2⟩:=h;exact (gX.1 h1).1
theorem FB.keep (h:FB g ob L ty a b w) (hw:w'.heap[g]?=w.heap[g]?):FB g ob L ty a b w':=by
 obtain ⟨cur,h1,h2⟩:=h;exact ⟨cur,by rw [hw];exact h1,h2⟩
theorem FB.aa8 (h:FB g ob L ty a b w) {q:Nat} (hq:q<L) (v:Value):FB g ob L ty (upd a q v) b (w.setCell ⟨g,ob+q*3+1,none⟩ v):=by
 obtain ⟨cur,h1,h2⟩:=h;refine ⟨cur.setIfInBounds (ob+q*3+1) v,heap_setCell_same w g _ cur _ v h1,λj hj=>?_⟩;have hlt:ob+q*3+1<cur.size:=(gX.1 (h2 q hq).2.1).1;obtain ⟨a1,a2,a3⟩:=h2 j hj;refine ⟨?_,?_,?_⟩
 ·rw [Array.getElem?_setIfInBounds,AD (by omega)];exact a1
 ·rw [Array.getElem?_setIfInBounds];unfold upd;by_cases hjq:j=q
  ·rw [AE (by omega),AE hlt,AE hjq]
  rw [AD (by omega),AD hjq];exact a2
 rw [Array.getElem?_setIfInBounds,AD (by omega)];exact a3
theorem FB.aa9 (h:FB g ob L ty a b w) {q:Nat} (hq:q<L) (v:Value):FB g ob L ty a (upd b q v) (w.setCell ⟨g,ob+q*3+2,none⟩ v):=by
 obtain ⟨cur,h1,h2⟩:=h;refine ⟨cur.setIfInBounds (ob+q*3+2) v,heap_setCell_same w g _ cur _ v h1,λj hj=>?_⟩;have hlt:ob+q*3+2<cur.size:=(gX.1 (h2 q hq).2.2).1;obtain ⟨a1,a2,a3⟩:=h2 j hj;refine ⟨?_,?_,?_⟩
 ·rw [Array.getElem?_setIfInBounds,AD (by omega)];exact a1
 ·rw [Array.getElem?_setIfInBounds,AD (by omega)];exact a2
 rw [Array.getElem?_setIfInBounds];unfold upd;by_cases hjq:j=q
 ·rw [AE (by omega),AE hlt,AE hjq]
 rw [AD (by omega),AD hjq];exact a3
structure jB (p g:Nat) (w w':AG):Prop where
 os:w'.os=w.os
 tape:w'.tape=w.tape
 output:w'.output=w.output
 size:w.heap.size<=w'.heap.size
 block:∀k,k<w.heap.size->k≠p->k≠g->w'.heap[k]?=w.heap[k]?
theorem jB.of {p:Nat} (h:But p w w'):jB p g w w':=⟨h.os,h.tape,h.output,h.size,λk hk hp _=>h.block k hk (by simpa using hp)⟩
theorem jB.refl (p g:Nat) (w:AG):jB p g w w:=⟨rfl,rfl,rfl,aC _,λ_ _ _ _=>rfl⟩
theorem jB.trans {p:Nat} {u:AG} (h:jB p g w w') (h':jB p g w' u):jB p g w u :=
 ⟨h'.os.trans h.os,h'.tape.trans h.tape,h'.output.trans h.output,eU h.size h'.size,λk hk hp hg=>(h'.block k (jg hk h.size) hp hg).trans (h.block k hk hp hg)⟩
theorem jB.set (p g o:Nat) (w:AG) (v:Value):jB p g w (w.setCell ⟨g,o,none⟩ v) :=
 ⟨rfl,rfl,rfl,by simp,λk hk hp hg=>Below.heap_setCell _ _ _ _ hg⟩
theorem jB.t {p:Nat} (h:jB p g w w') (hf:FB g ob L ty a b w):vn p w w':=⟨h.os,h.tape,h.output,h.size,λk hk hp hn=>h.block k hk hp (λe=>by
 obtain ⟨cur,h1,_⟩:=hf;subst e;exact hn cur _ h1)⟩
theorem jB.heap {p:Nat} (h:jB p g w w') {k:Nat} {o:Obj} (hp:k≠p) (hg:k≠g) (hk:w.heap[k]?=some o):w'.heap[k]?=some o:=by rw [h.block k (gX.1 hk).1 hp hg];exact hk
end
theorem RS.other {w0 w:AG} {p:Nat} {s:AH} {c:Nat->Value} {en k i n:Nat} (h:RS w0 p s c en k i n w) {g:Nat} (hg:g≠p) (h0:w0.heap.size<=g) (o:Nat) (v:Value):RS w0 p s c en k i n (w.setCell ⟨g,o,none⟩ v) :=
 ⟨h.below.setCell h0 _,h.base,by rw [Below.heap_setCell _ _ _ _ (by exact λe=>hg e.symm)];exact h.blk,h.le,h.len,h.big⟩
def xq (s:AH) (en i n:Nat):R2 (List Int × IL 81):=fU (lift (Co s en i) n) λl j m=>fU (wh s en j m) λb j2 m2=>.ok ((l,b),j2,m2)
def tX (w0:AG) (p:Nat) (s:AH) (c:Nat->Value) (en k g ob L:Nat) (ty:Nat->Int) (a b:Nat->Value) (q:Nat) (w:AG) (x:R2 (List Int × IL 81)) (e:Ending) (w':AG):Prop :=
 match x with
 | .ok (lb,j,m)=>e=.returned (.tuple #[])/\(∃vl vb,RS w0 p s c en k j m w'/\FB g ob L ty (upd a q vl) (upd b q vb) w'/\aU w' (Since w.heap.size w' none) vl lb.1/\az w' (Since w.heap.size w' none) 81 vb lb.2)/\jB p g w w'
 | .error z=>e=.panicked (gave z)/\AS w0 w'
end aI
namespace aI
theorem yn {w w':AG} (h:w.grownBy w' none):AS w w':=⟨h.os,h.tape,h.output,h.size,λk hk=>h.block k hk (by simp)⟩
theorem Ks {p:Nat} {w w':AG} {o:Option Nat} (ho:o=none\/o=some p) (h:w.grownBy w' o):But p w w':=by
 rcases ho with rfl|rfl
 ·exact But.of p (yn h)
 exact h
theorem uN {w w':AG} (h:AS w w'):w.grownBy w' none:=⟨h.os,h.tape,h.output,h.size,λk hk _=>h.block k hk⟩
def pI (p:Nat) (i:Nat):Option Nat:=if i=2 then some p else none
theorem Kt (p i:Nat):pI p i=none\/pI p i=some p:=by unfold pI;split<;>simp
structure KF (p g ob L:Nat) (ty:Nat->Int) (a b:Nat->Value) (q br bf:Nat) (W w:AG):Prop where
 but:But p W w
 hr:w.heap[br]?=some (.cells #[.pointer (some ⟨p,0,none⟩)] 77 (0,0))
 hx:w.heap[bf]?=some (.cells #[.pointer (some ⟨g,ob+q*3,none⟩)] 133 (0,0))
 fb:FB g ob L ty a b w
theorem KF.on {p g ob L:Nat} {ty:Nat->Int} {a b:Nat->Value} {q br bf:Nat} {W w w':AG} (h:KF p g ob L ty a b q br bf W w) (uO:g≠p) (nH:br≠p) (hfp:bf≠p) (hb:But p w w'):KF p g ob L ty a b q br bf W w' :=
 ⟨h.but.trans hb,Cn hb nH h.hr,Cn hb hfp h.hx,h.fb.keep (hb.block g h.fb.lt (by simpa using uO))⟩
def G1 {α:Type} (V:α->Value->AG->Prop) (RD:α->AG->Prop) (X:Option α) (p g o:Nat) (f:Nat):Nat->Value->AG->Prop
 | 0,v,_=>v=.pointer (some ⟨g,o,none⟩)
 | 1,v,_=>v=.pointer (some ⟨p,0,none⟩)
 | 2,v,w=>match X with
  | some x=>V x v w/\RD x w
  | none=>False
 | 3,v,_=>v=.pointer (some ⟨g,o,none⟩)
 | _,v,_=>v=.pointer (some ⟨g,o+f,none⟩)
theorem Ku {l:List Value} (h:l.length=5):∃a b c d e,l = [a,b,c,d,e]:=by
 match l,h with
 | [a,b,c,d,e],_=>exact ⟨a,b,c,d,e,rfl⟩
end aI
theorem aba (w0:AG) (p:Nat) (s:AH) (c:Nat->Value) (en k i n g ob L:Nat) (ty:Nat->Int) (a b:Nat->Value) (q br bf:Nat) (w:AG) (h:RS w0 p s c en k i n w) (hn:n<=65536) (hf:FB g ob L ty a b w) (hq:q<L) (uO:g≠p) (hg0:w0.heap.size<=g) (hrg:br≠g) (hfg:bf≠g) (nH:br≠p) (hfp:bf≠p)
  (hr:w.heap[br]?=some (.cells #[.pointer (some ⟨p,0,none⟩)] 77 (0,0))) (hx:w.heap[bf]?=some (.cells #[.pointer (some ⟨g,ob+q*3,none⟩)] 133 (0,0))) :
  Calls prog 101 #[.pointer (some ⟨br,0,none⟩),.pointer (some ⟨bf,0,none⟩)] w (tX w0 p s c en k g ob L ty a b q w (xq s en i n)):=by
 have hd:AS w w.drew:=⟨rfl,rfl,rfl,aC _,λ_ _=>rfl⟩;have HL:=λu hu=>aa (abb w0 p s c en k i n u hu);have HK:Hid (KF p g ob L ty a b q br bf w w.drew):=aa ⟨But.of p hd,Bo hd hr,Bo hd hx,hf.keep (hd.block g hf.lt)⟩;have HR:=aa (h.on hd);have abd:=hf.lt;have abe:=h.lt;unfold xq;generalize Co s en i=X at HL ⊢;clear h hf hr hx hd;go_enter func101,ntmps101;go_wp2_with fail;refine ai.CS 5 (λi=>2+i) (pI p) (KF p g ob L ty a b q br bf w) (λj u=>j=2->RS w0 p s c en k i n u) (G1 (λ(x:List Int × Nat) v u=>aU u (Since w.heap.size u none) v x.1) (λx u=>RS w0 p s c en k x.2 n u) (match X with | .ok x=>some x | .error _=>none) p g (ob+q*3) 1) (by kernel_rfl) (by kernel_rfl) (λi j h1 h2 h=>by have h':2+i=2+j:=h;omega) (ai.lJ (size:=12) (by kernel_rfl)) ?tQ ?hres ?hK ?hstep ?cO HK.out (λj hj e=>HR.out)
 case hK=>exact λk' u u' hk cA hg=>cA.on uO nH hfp (Ks (Kt p k') hg)
 case hres =>
  intro i' k' u u' hi hk hne wm hg e;subst e
  have:pI p k'=none:=by unfold pI;rw [AD (by omega)]
  rw [this] at hg;exact (wm rfl).on (yn hg)
 case tQ =>
  intro i' k' v u u' hi hk hne cA hG hg
  match i',hi with
  | 0,_=>exact hG
  | 1,_=>exact hG
  | 2,_ =>
   have:pI p k'=none:=by unfold pI;rw [AD (by omega)]
   rw [this] at hg;cases X with
   | error z=>exact hG
   | ok x=>exact ⟨aU.keep (pO (yn hg)) hG.1,RS.on hG.2 (yn hg)⟩
  | 3,_=>exact hG
  | 4,_=>exact hG
 case hstep =>
  intro j o a1 u hj ho hF cA wm hd;have c1:=xu cA.hr;have c2:=xu cA.hx;have q0:a1.tmps[0]?.getD undef=.pointer (some ⟨br,0,none⟩):=ai.aB (hF.eval 0 (λi hi=>by show 2+i≠0;omega));have q1:a1.tmps[1]?.getD undef=.pointer (some ⟨bf,0,none⟩):=ai.aB (hF.eval 1 (λi hi=>by show 2+i≠1;omega));have hcase:j=0\/j=1\/j=2\/j=3\/j=4:=by omega
  clear hj;rcases hcase with rfl|rfl|rfl|rfl|rfl
  all_goals (simp only [gz,gU,gV,gN] at ho;subst ho;refine ai.aO λK hK=>?_)
  ·go_simp;exact hK _ _ ⟨_,rfl,uN (AC _ _),rfl⟩
  ·go_simp;exact hK _ _ ⟨_,rfl,uN (AC _ _),rfl⟩
  ·have q3:a1.tmps[3]?.getD undef=.pointer (some ⟨p,0,none⟩):=ai.aB (hd 1 (by decide));go_simp;refine (HL u (wm rfl)).out.mono ?_;intro e u2 hr2;cases X with
   | error z =>
    obtain ⟨rfl,hb⟩:=hr2;exact ⟨hF.defers,rfl,hb⟩
   | ok x =>
    obtain ⟨l,j⟩:=x;obtain ⟨⟨v,rfl,hv⟩,h1,h2⟩:=hr2;exact hK _ _ ⟨_,rfl,h2,aU.keep (λk' hk'=>⟨⟨eU cA.but.size hk'.1,hk'.2⟩,rfl⟩) hv,h1⟩
  ·have q2:a1.tmps[2]?.getD undef=.pointer (some ⟨g,ob+q*3,none⟩):=ai.aB (hd 0 (by decide));go_simp;exact hK _ _ ⟨_,rfl,uN (AC _ _),rfl⟩
  have q2:a1.tmps[5]?.getD undef=.pointer (some ⟨g,ob+q*3,none⟩):=ai.aB (hd 3 (by decide));go_simp;exact hK _ _ ⟨_,rfl,uN (AC _ _),rfl⟩
 case cO =>
  intro a1 u hF cA hG;have zB:=hG 2 (by omega);cases X with
  | error z=>exact absurd zB id
  | ok x =>
   obtain ⟨l,j⟩:=x;obtain ⟨hv,hrs⟩:=zB;have hv:aU u (Since w.heap.size u none) (a1.eval (.tmp 4)) l:=hv;have hrs:RS w0 p s c en k j n u:=hrs;have g4:a1.eval (.tmp 6)=.pointer (some ⟨g,ob+q*3+1,none⟩):=hG 4 (by omega);obtain ⟨xl,hxl,rfl,hev⟩:=hF.lit (by simp);obtain ⟨x0,x1,x2,x3,x4,rfl⟩:=Ku hxl;have e2:=hev 2 (by omega);have e4:=hev 4 (by omega);simp only [nP,nQ] at e2 e4;rw [show (2+4)=6 from rfl,g4] at e4;rw [show (2+2)=4 from rfl] at e2;rw [e2] at hv;subst e4;clear hev hxl hF hG g4 e2 HL HR HK;obtain ⟨oV,kV,rfl⟩:=Row.len hv;have c1:=(cA.fb.cell hq).2.1;have f1:=cA.fb.ax (ob+q*3+1);obtain ⟨W1,hW1⟩:∃W1,W1=u.setCell ⟨g,ob+q*3+1,none⟩ (.slice oV l.length kV):=⟨_,rfl⟩;have DX:jB p g w W1:=by rw [hW1];exact (jB.of cA.but).trans (jB.set p g _ u _)
   have Ky:FB g ob L ty (upd a q (.slice oV l.length kV)) b W1:=by rw [hW1];exact cA.fb.aa8 hq _
   have qD:RS w0 p s c en k j n W1:=by rw [hW1];exact hrs.other uO hg0 _ _
   have BX:g<w.heap.size:=abd
   have hS1:aU W1 (λk'=>w.heap.size<=k'/\k'<W1.heap.size) (.slice oV l.length kV) l:=by
    rw [hW1];exact hv.keep λk' hk'=>⟨⟨hk'.1,by simpa using hk'.2.1⟩,Below.heap_setCell _ _ _ _ (by show k'≠g;have:=hk'.1;omega)⟩
   have hr1:W1.heap[br]?=some (.cells #[.pointer (some ⟨p,0,none⟩)] 77 (0,0)):=by rw [hW1,Below.heap_setCell _ _ _ _ (by exact hrg)];exact cA.hr
   have hx1:W1.heap[bf]?=some (.cells #[.pointer (some ⟨g,ob+q*3,none⟩)] 133 (0,0)):=by rw [hW1,Below.heap_setCell _ _ _ _ (by exact hfg)];exact cA.hx
   have HW1:=aa hW1;have HB1:=aa DX;have aP:=aa hS1;have hd1:AS W1 W1.drew:=⟨rfl,rfl,rfl,aC _,λ_ _=>rfl⟩;have bJ:Hid (KF p g ob L ty (upd a q (.slice oV l.length kV)) b q br bf W1 W1.drew):=aa ⟨But.of p hd1,Bo hd1 hr1,Bo hd1 hx1,Ky.keep (hd1.block g Ky.lt)⟩;have HR1:=aa (qD.on hd1);have HE:=λu hu=>aa (abf w0 p s c en k j n u hu hn);clear hd1 hr1 hx1 qD Ky DX hS1 hv hrs cA hW1;simp only [ja,jb,iw,gP,iy,fN];show wpList _ _ _ _ _ _;generalize l.length=nl at *;go_wp2_with fail;rw [<- HW1.out];clear HW1;show Code.wp _ _ _ _ _;generalize hY:wh s en j n=Y at HE;refine ai.CS 5 (λi=>7+i) (pI p) (KF p g ob L ty (upd a q (.slice oV nl kV)) b q br bf W1) (λj' u=>j'=2->RS w0 p s c en k j n u) (G1 (λ(x:IL 81 × Nat × Nat) v u=>az u (Since W1.heap.size u none) 81 v x.1) (λx u=>RS w0 p s c en k x.2.1 x.2.2 u) (match Y with | .ok x=>some x | .error _=>none) p g (ob+q*3) 2) (by kernel_rfl) (by kernel_rfl) (λi j h1 h2 h=>by have h':7+i=7+j:=h;omega) (ai.lJ (size:=12) (by kernel_rfl)) ?tQ ?hres ?hK ?hstep ?cO bJ.out (λj hj e=>HR1.out)
   case hK=>exact λk' u u' hk cA hg=>cA.on uO nH hfp (Ks (Kt p k') hg)
   case hres =>
    intro i' k' u u' hi hk hne wm hg e;subst e
    have:pI p k'=none:=by unfold pI;rw [AD (by omega)]
    rw [this] at hg;exact (wm rfl).on (yn hg)
   case tQ =>
    intro i' k' v u u' hi hk hne cA hG hg
    match i',hi with
    | 0,_=>exact hG
    | 1,_=>exact hG
    | 2,_ =>
     have:pI p k'=none:=by unfold pI;rw [AD (by omega)]
     rw [this] at hg;cases Y with
     | error z=>exact hG
     | ok x=>exact ⟨az.keep (pO (yn hg)) _ _ _ hG.1,RS.on hG.2 (yn hg)⟩
    | 3,_=>exact hG
    | 4,_=>exact hG
   case hstep =>
    intro j' o a1 u hj ho hF cA wm hd;have c1:=xu cA.hr;have c2:=xu cA.hx;have q0:a1.tmps[0]?.getD undef=.pointer (some ⟨br,0,none⟩):=ai.aB (hF.eval 0 (λi hi=>by show 7+i≠0;omega));have q1:a1.tmps[1]?.getD undef=.pointer (some ⟨bf,0,none⟩):=ai.aB (hF.eval 1 (λi hi=>by show 7+i≠1;omega));have hcase:j'=0\/j'=1\/j'=2\/j'=3\/j'=4:=by omega
    clear hj;rcases hcase with rfl|rfl|rfl|rfl|rfl
    all_goals (simp only [gz,gU,gV,gN] at ho;subst ho;refine ai.aO λK hK=>?_)
    ·go_simp;exact hK _ _ ⟨_,rfl,uN (AC _ _),rfl⟩
    ·go_simp;exact hK _ _ ⟨_,rfl,uN (AC _ _),rfl⟩
    ·have q3:a1.tmps[8]?.getD undef=.pointer (some ⟨p,0,none⟩):=ai.aB (hd 1 (by decide));go_simp;refine (HE u (wm rfl)).out.mono ?_;intro e u2 hr2;cases Y with
     | error z =>
      obtain ⟨rfl,hb⟩:=hr2;refine ⟨hF.defers,?_⟩;show tX w0 p s c en k g ob L ty a b q w (fU (wh s en j n) λb j2 m2=>.ok ((l,b),j2,m2)) _ _;rw [hY];exact ⟨rfl,hb⟩
     | ok x =>
      obtain ⟨l2,j2,m2⟩:=x;obtain ⟨⟨v,rfl,o9,n9,k9,rfl,hv⟩,h1,h2⟩:=hr2;exact hK _ _ ⟨_,rfl,h2,az.keep (λk' hk'=>⟨⟨eU cA.but.size hk'.1,hk'.2⟩,rfl⟩) _ _ _ hv,h1⟩
    ·have q2:a1.tmps[7]?.getD undef=.pointer (some ⟨g,ob+q*3,none⟩):=ai.aB (hd 0 (by decide));go_simp;exact hK _ _ ⟨_,rfl,uN (AC _ _),rfl⟩
    have q2:a1.tmps[10]?.getD undef=.pointer (some ⟨g,ob+q*3,none⟩):=ai.aB (hd 3 (by decide));go_simp;exact hK _ _ ⟨_,rfl,uN (AC _ _),rfl⟩
   case cO =>
    intro a1 u hF cA hG;have zB:=hG 2 (by omega);cases Y with
    | error z=>exact absurd zB id
    | ok x =>
     obtain ⟨l2,j2,m2⟩:=x;obtain ⟨hv,hrs⟩:=zB;have hv:az u (Since W1.heap.size u none) 81 (a1.eval (.tmp 9)) l2:=hv;have hrs:RS w0 p s c en k j2 m2 u:=hrs;have g4:a1.eval (.tmp 11)=.pointer (some ⟨g,ob+q*3+2,none⟩):=hG 4 (by omega);obtain ⟨xl,hxl,rfl,hev⟩:=hF.lit (by simp);obtain ⟨y0,y1,y2,y3,y4,rfl⟩:=Ku hxl;have e2:=hev 2 (by omega);have e4:=hev 4 (by omega);simp only [nP,nQ] at e2 e4;rw [show (7+4)=11 from rfl,g4] at e4;rw [show (7+2)=9 from rfl] at e2;rw [e2] at hv;subst e4;clear hev hxl hF hG g4 e2 HE HR1 bJ;obtain ⟨oW,kW,rfl⟩:=At.len 81 _ _ (az.at 81 _ _ hv);have c1:=(cA.fb.cell hq).2.2;have f1:=cA.fb.ax (ob+q*3+2);obtain ⟨W2,gY⟩:∃W2,W2=u.setCell ⟨g,ob+q*3+2,none⟩ (.slice oW (size 81 l2) kW):=⟨_,rfl⟩;have hs1:w.heap.size<=W1.heap.size:=HB1.out.size;have nE:jB p g w W2:=by rw [gY];exact HB1.out.trans ((jB.of cA.but).trans (jB.set p g _ u _))
     have hF2:FB g ob L ty (upd a q (.slice oV nl kV)) (upd b q (.slice oW (size 81 l2) kW)) W2:=by rw [gY];exact cA.fb.aa9 hq _
     have PX:RS w0 p s c en k j2 m2 W2:=by rw [gY];exact hrs.other uO hg0 _ _
     have hpw:p<w.heap.size:=abe
     have hA2:az W2 (Since w.heap.size W2 none) 81 (.slice oW (size 81 l2) kW) l2:=by
      rw [gY];exact az.keep (λk' hk'=>⟨⟨eU hs1 hk'.1,by simpa using hk'.2.1,by simp⟩,Below.heap_setCell _ _ _ _ (by show k'≠g;have:=hk'.1;omega)⟩) _ _ _ hv
     have PY:aU W2 (Since w.heap.size W2 none) (.slice oV nl kV) l:=by
      rw [gY]
      exact aP.out.keep λk' hk'=>⟨⟨hk'.1,by have:=cA.but.size;have:=hk'.2;simp;omega,by simp⟩,by
       rw [Below.heap_setCell _ _ _ _ (by show k'≠g;have:=hk'.1;omega)];exact cA.but.block k' hk'.2 (by have:=hk'.1;simp;omega)⟩
     have Kv:Hid (tX w0 p s c en k g ob L ty a b q w (fU (.ok (l2,j2,m2)) λb j2 m2=>.ok ((l,b),j2,m2)) (.returned (.tuple #[])) W2):=aa ⟨rfl,⟨_,_,PX,hF2,PY,hA2⟩,nE⟩;have HW2:=aa gY;clear nE hF2 PX hA2 PY cA hrs hv gY;simp only [ja,jb,iw,gP,iy,fN];generalize size 81 l2=n2 at *;go_wp2;go_end0;rw [<- HW2.out];show tX w0 p s c en k g ob L ty a b q w (fU (wh s en j n) λb j2 m2=>.ok ((l,b),j2,m2)) _ _;rw [hY];exact Kv.out
namespace aI
def ym (s:AH) (en i n:Nat):R2 (List Int × IL 81) :=
 fU (lift (ru s en i) n) λz j m=>fU (xq s (min en (j+z.toNat)) j m) λx m2 n2=>if m2=j+z.toNat then .ok (x,m2,n2) else .error 50
end aI
theorem aaY (w0:AG) (p:Nat) (s:AH) (c:Nat->Value) (en k i n g ob L:Nat) (ty:Nat->Int) (a b:Nat->Value) (q br bf:Nat) (w:AG) (h:RS w0 p s c en k i n w) (hn:n<=65536) (hf:FB g ob L ty a b w) (hq:q<L) (uO:g≠p) (hg0:w0.heap.size<=g) (hrg:br≠g) (hfg:bf≠g) (nH:br≠p) (hfp:bf≠p)
  (hr:w.heap[br]?=some (.cells #[.pointer (some ⟨p,0,none⟩)] 77 (0,0))) (hx:w.heap[bf]?=some (.cells #[.pointer (some ⟨g,ob+q*3,none⟩)] 133 (0,0))) :
  Calls prog 49 #[.pointer (some ⟨p,0,none⟩),.func (.func 101) #[] #[.pointer (some ⟨br,0,none⟩),.pointer (some ⟨bf,0,none⟩)]] w (tX w0 p s c en k g ob L ty a b q w (ym s en i n)):=by
 have HC:=aa (jU w0 p s c en k i n w h);unfold ym;cases hR:ru s en i with
 | error z =>
  rw [hR] at HC;clear h hf hr hx;go_enter func49,ntmps49;go_wp2_with fail;refine HC.out.mono ?_;rintro e u ⟨rfl,hb⟩;exact ⟨rfl,rfl,hb⟩
 | ok vv =>
  obtain ⟨zi,j⟩:=vv;obtain ⟨hij,UJ,hz0,hz1⟩:=tu h.len hR;rw [hR] at HC;obtain ⟨z,rfl⟩:=Int.eq_ofNat_of_zero_le hz0;have hlen:=h.len;have hbig:=h.big;have hpw:=h.lt;have BX:=hf.lt;clear h hR;show Calls _ _ _ _ (tX w0 p s c en k g ob L ty a b q w (fU (xq s (min en (j+z)) j n) λx m2 n2=>if m2=j+z then .ok (x,m2,n2) else .error 50))
  have HI:Hid (∀(u1:AG) (E:Nat),RS w0 p s c en k j n u1->But p w u1->j<=E->E<=en->Calls prog 101 #[.pointer (some ⟨br,0,none⟩),.pointer (some ⟨bf,0,none⟩)] (u1.setCell ⟨p,2,none⟩ (.int .i64 E)) (λe w'=>tX w0 p s c E k g ob L ty a b q (u1.setCell ⟨p,2,none⟩ (.int .i64 E)) (xq s E j n) e w')):=aa λu1 E h1 hB IY Dh=>by
   have wM:But p w (u1.setCell ⟨p,2,none⟩ (.int .i64 E)):=hB.trans (But.set p 2 u1 _);exact aba w0 p s c E k j n g ob L ty a b q br bf _ (h1.end_ IY (by omega)) hn (hf.keep (wM.block g BX (by simpa using uO))) hq uO hg0 hrg hfg nH hfp (Cn wM nH hr) (Cn wM hfp hx)
  have HJ:Hid (∀(u1:AG) (E:Nat) (w3:AG) (x:List Int × IL 81) (m n3:Nat),But p w u1->tX w0 p s c E k g ob L ty a b q (u1.setCell ⟨p,2,none⟩ (.int .i64 E)) (.ok (x,m,n3)) (.returned (.tuple #[])) w3->E<=en ->
    tX w0 p s c en k g ob L ty a b q w (.ok (x,m,n3)) (.returned (.tuple #[])) (w3.setCell ⟨p,2,none⟩ (.int .i64 en))/\w3.cell? ⟨p,1,none⟩=some (.int .i64 m)/\w3.cell? ⟨p,2,none⟩=some (.int .i64 E)/\w3.frozen? ⟨p,2,none⟩=false/\AS w0 w3):=aa λu1 E w3 x m n3 hB ⟨_,⟨vl,vb,h3,f3,i3,a3⟩,b3⟩ hE=>by
   have hbs:=But.set p 2 w3 (.int .i64 (en:Int));have wM:But p w (u1.setCell ⟨p,2,none⟩ (.int .i64 E)):=hB.trans (But.set p 2 u1 _)
   have hkp:∀k',Since (u1.setCell ⟨p,2,none⟩ (.int .i64 E)).heap.size w3 none k'->Since w.heap.size (w3.setCell ⟨p,2,none⟩ (.int .i64 en)) none k'/\(w3.setCell ⟨p,2,none⟩ (.int .i64 en)).heap[k']?=w3.heap[k']?:=λk' hk'=>by
    have h1:=hk'.1;have h2:=wM.size;exact ⟨⟨by omega,by simpa using hk'.2.1,by simp⟩,hbs.block k' hk'.2.1 (by simp;omega)⟩
   exact ⟨⟨rfl,⟨vl,vb,h3.end_ (eU h3.le hE) hlen,f3.keep (hbs.block g f3.lt (by simpa using uO)),i3.keep hkp,az.keep hkp _ _ _ a3⟩,((jB.of wM).trans b3).trans (jB.of hbs)⟩,h3.cell 1 _ rfl,h3.cell 2 _ rfl,h3.ax 2,h3.below⟩
  have HX:=aa (λu1 h1 hB=>HI.out u1 (min en (j+z)) h1 hB (by omega) (by omega));have Aj:=aa (λu1 w3 x m n3 hB hx=>HJ.out u1 (min en (j+z)) w3 x m n3 hB hx (by omega));clear HI HJ hf hr hx;rw [show ((min en (j+z):Nat):Int)=min (en:Int) ((j:Int)+(z:Int)) by omega] at HX Aj;generalize xq s (min en (j+z)) j n=X at HX ⊢;have fin:Hid (∀e w',tX w0 p s c en k g ob L ty a b q w (fU X λx m2 n2=>if m2=j+z then .ok (x,m2,n2) else .error 50) e w'->tX w0 p s c en k g ob L ty a b q w (fU X λx m2 n2=>if m2=j+z then .ok (x,m2,n2) else .error 50) e w'):=aa λ_ _ h=>h;go_enter func49,ntmps49;go_wp2_with fail;refine HC.out.mono ?_;rintro e u ⟨⟨v,rfl,hv⟩,h1,h2⟩;have hv:v=.int .i64 z:=hv;subst hv;have d1:=h1.cell 1 _ rfl;have d2:=h1.cell 2 _ rfl;have H1:=aa h1;have H2:=aa h2;clear h1 h2 HC hv;go_wp2_with fail;go_quiet (fail);have h1':=H1.out.on (mE u nq);have dH:But p w (u.drewN nq):=H2.out.trans (But.of p (mE u nq));generalize u.drewN nq=u1 at *;clear d1 d2 H1 H2;have e1:=h1'.cell 1 _ rfl;have e2:=h1'.cell 2 _ rfl;have f2:=h1'.ax 2;have H1:=aa h1';have HB:=aa dH;clear h1' dH;go_wp2_with fail;refine (HX.out u1 H1.out HB.out).mono ?_;intro e w3 hr;cases X with
  | error zz =>
   obtain ⟨rfl,hb⟩:=hr;exact ⟨rfl,rfl,hb⟩
  | ok vv =>
   obtain ⟨x,m,n3⟩:=vv;obtain ⟨rfl,hrr⟩:=hr;obtain ⟨hr3,c1,c2,f3,hbe⟩:=Aj.out u1 w3 x m n3 HB.out ⟨rfl,hrr⟩;have HR3:=aa hr3;have Gq:=aa hbe;clear hr3 hrr hbe HX Aj H1 HB e1 e2 f2;by_cases hm:m=j+z
   ·have dm:((m:Int)==(j:Int)+(z:Int))=true:=by simp;omega
    go_wp2_with fail;refine (dA _ _).mono ?_;rintro e w' ⟨rfl,rfl⟩;go_wp2;go_end0;refine fin.out _ _ ?_;show tX w0 p s c en k g ob L ty a b q w (if m=j+z then .ok (x,m,n3) else .error 50) _ _;rw [AE hm];exact HR3.out
   have dm:((m:Int)==(j:Int)+(z:Int))=false:=by simp;omega
   go_wp2_with fail;refine (iX _ _).mono ?_;rintro e w' ⟨rfl,rfl⟩;refine ⟨rfl,fin.out _ _ ?_⟩;show tX w0 p s c en k g ob L ty a b q w (if m=j+z then .ok (x,m,n3) else .error 50) _ _;rw [AD hm];exact ⟨rfl,Gq.out⟩
end Go.Proofs.YtcfifbgemfladaaGreatDoor
