/- Texts that the claim needs. -/
import Derived.Test.YtegboefdolfdgaaGreatDoorQDM8
import Derived.Test.YtegboefdolfdgaaGreatDoorQDM0
namespace Go.Proofs.YtegboefdolfdgaaGreatDoor
open Go.RowKit aA ai
set_option linter.unusedVariables false
set_option maxRecDepth 100000
set_option maxHeartbeats 4000000
namespace ai
def i0 (v:Value) (_:World):Prop:=∃t:Int,v=.int .i64 t
end ai
section
variable (w0:World) (p:Nat) (s:ByteArray) (en i n:Nat) (z:Int) (w:World) (h:DS w0 p s en i n z w)
include h
theorem Dk:Calls Tryz.prog 57 #[.pointer (some ⟨p,0,none⟩)] w (DR w0 p s en fS i0 w (aG z (lift (rt s en i) n))):=by
 have HY:=aa (wK w0 p s en i n z w h);clear h;unfold rt;rw [AX,AY];generalize aG z (lift (nx s en i) n)=X at HY ⊢;cases X with
 | error y =>
  show Calls _ _ _ _ (DR w0 p s en fS i0 w (.error y));go_enter Tryz.func57,Tryz.ntmps57;go_wp2_with fail;refine HY.out.mono ?_;rintro e u ⟨hy,v,i2,n2,rfl,hv,h1,h2⟩;have hv:v=.int .i64 0:=hv;subst hv;have b1:(y != 0)=true:=by simp [hy]
  have c4:=h1.cell 4 _ rfl;have H1:=aa h1;have H2:=aa h2;have hy':=aa hy;clear h1 h2 HY hy;go_wp2;go_ret;exact ⟨hy'.out,_,i2,n2,rfl,⟨0,rfl⟩,H1.out,H2.out⟩
 | ok v =>
  obtain ⟨x,j,m⟩:=v;show Calls _ _ _ _ (DR w0 p s en fS i0 w (lift (kz x j) m));have Ik:∀(k:Int) (hk:k≠0) (u:World) (h1:DS w0 p s en j m 0 u) (h2:But p w u),Calls Tryz.prog 16 #[.pointer (some ⟨p,0,none⟩),.int .i64 k] u fun e w'=>e=.returned (.tuple #[])/\DS w0 p s en j m k w'/\But p w w':=fun k hk u h1 h2=>(fD w0 p s en j m 0 u h1 k).mono fun e w' ⟨a,b,c⟩=>⟨a,by rw [if_pos rfl] at b;exact b,h2.trans c⟩;have Il:=aa Ik;clear Ik;unfold kz;by_cases h1:x=124\/x=125
  ·rw [if_pos h1]
   have hk:(x == 125)=true\/((x == 125)=false/\(x == 124)=true):=by
    rcases h1 with h|h
    ·right;subst h;decide
    ·left;subst h;decide
   rcases hk with k1|⟨k1,k2⟩
   all_goals (
    go_enter Tryz.func57,Tryz.ntmps57;go_wp2_with fail;refine HY.out.mono ?_;rintro e u ⟨v,rfl,hv,h1,h2⟩;have hv:v=.int .i64 x:=hv;subst hv;have c4:=h1.cell 4 _ rfl;have H1:=aa h1;have H2:=aa h2;clear h1 h2 HY;go_wp2_with fail;refine (Il.out 51 (by decide) _ H1.out H2.out).mono ?_;rintro e u3 ⟨rfl,h3,h4⟩;have H3:=aa h3;have H4:=aa h4;clear h3 h4;go_wp2;go_ret;exact ⟨by decide,_,j,m,rfl,⟨x,rfl⟩,H3.out,H4.out⟩)
  ·rw [if_neg h1];have k1:(x == 125)=false:=by simp;omega
   have k2:(x == 124)=false:=by simp;omega
   by_cases h2:x=127\/x=126
   ·rw [if_pos h2]
    have hk:(x != 127)=false\/((x != 127)=true/\(x != 126)=false):=by
     rcases h2 with h|h
     ·left;subst h;decide
     ·right;subst h;decide
    rcases hk with k3|⟨k3,k4⟩
    all_goals (
     go_enter Tryz.func57,Tryz.ntmps57;go_wp2_with fail;refine HY.out.mono ?_;rintro e u ⟨v,rfl,hv,h1,h2⟩;have hv:v=.int .i64 x:=hv;subst hv;have c4:=h1.cell 4 _ rfl;have H1:=aa h1;have H2:=aa h2;clear h1 h2 HY;go_wp2;go_ret;exact ⟨_,rfl,rfl,H1.out,H2.out⟩)
   ·rw [if_neg h2];have k3:(x != 127)=true:=by simp;omega
    have k4:(x != 126)=true:=by simp;omega
    go_enter Tryz.func57,Tryz.ntmps57;go_wp2_with fail;refine HY.out.mono ?_;rintro e u ⟨v,rfl,hv,h1,h2⟩;have hv:v=.int .i64 x:=hv;subst hv;have c4:=h1.cell 4 _ rfl;have H1:=aa h1;have H2:=aa h2;clear h1 h2 HY;go_wp2_with fail;refine (Il.out 50 (by decide) _ H1.out H2.out).mono ?_;rintro e u3 ⟨rfl,h3,h4⟩;have H3:=aa h3;have H4:=aa h4;clear h3 h4;go_wp2;go_ret;exact ⟨by decide,_,j,m,rfl,⟨x,rfl⟩,H3.out,H4.out⟩
theorem Lj:Calls Tryz.prog 94 #[.pointer (some ⟨p,0,none⟩)] w (DR w0 p s en fS i0 w (aG z (lift (jh s en i) n))):=by
 have c0:=h.cell 0 _ rfl;have c1:=h.cell 1 _ rfl;have c2:=h.cell 2 _ rfl;have c4:=h.cell 4 _ rfl;have hlen:=h.len;have H:=aa h
 have HT:Hid (∀u,Below w.heap.size w u->Calls Tryz.prog 57 #[.pointer (some ⟨p,0,none⟩)] u (DR w0 p s en fS i0 w (aG z (lift (rt s en i) n)))):=aa fun u hb=>(Dk w0 p s en i n z u (h.on hb)).mono fun e w' hx=>by
  generalize aG z (lift (rt s en i) n)=X at hx ⊢;cases X with
  | error y=>obtain ⟨a,v,i2,n2,b,c,d,f⟩:=hx;exact ⟨a,v,i2,n2,b,c,d,(But.of p hb).trans f⟩
  | ok x=>obtain ⟨v,b,c,d,f⟩:=hx;exact ⟨v,b,c,d,(But.of p hb).trans f⟩
 by_cases hz:z=0
 ·subst hz;by_cases hi:i<en
  ·have hlt:i<s.size:=by omega
   have hbt:((s[i]'hlt).toNat:Int)=ae.bt s i:=ae.get_bt s i hlt;have hnx:nx s en i=.ok (ae.bt s i,i+1):=by unfold nx;rw [if_pos hi]
   have dl:decide ((i:Int)<(en:Int))=true:=decide_eq_true (by omega);by_cases hb:ae.bt s i=64
   ·have e1:jh s en i=.ok (0,i+1):=by unfold jh;rw [hnx,aM,if_pos hb]
    rw [e1];have q1:(ae.bt s i == 64)=true:=by simp [hb]
    have hw:IntKind.i64.wrap ((i:Int)+1)=(i:Int)+1:=by have:=h.big;rw [IntKind.wrap_i64];omega
    have hie:i+1<=en:=by omega
    clear h HT;go_enter Tryz.func94,Tryz.ntmps94;go_wp2_with fail;go_quiet (fail);have HD:=aa (H.out.on (bN w nq));have HB:Hid (But p w (w.drewN nq)):=aa (But.of p (bN w nq));generalize w.drewN nq=u1 at *;clear c0 c1 c2 c4 H;have d1:=HD.out.cell 1 _ rfl;have f1:=HD.out.ag 1;have H2:=aa (HD.out.at_ hie);have HB2:Hid (But p w (u1.setCell ⟨p,1,none⟩ (.int .i64 ((i+1:Nat):Int)))):=aa (HB.out.trans (But.set p 1 u1 _));rw [show (((i+1:Nat):Int))=(i:Int)+1 by omega] at H2 HB2;clear HD HB;go_wp2;go_ret;exact ⟨_,rfl,rfl,H2.out,HB2.out⟩
   ·have e1:jh s en i=rt s en i:=by unfold jh rt;rw [hnx,aM,aM,if_neg hb]
    rw [e1];have q1:(ae.bt s i == 64)=false:=by simp [hb]
    clear h;have tV:Hid (∀X,aG 0 (lift (rt s en i) n)=X->∀e w',DR w0 p s en fS i0 w X e w'->DR w0 p s en fS i0 w (aG 0 (lift (rt s en i) n)) e w'):=aa fun X hX _ _ h=>hX ▸ h;go_enter Tryz.func94,Tryz.ntmps94;go_wp2_with fail;go_quiet (fail);go_wp2_with fail;have HX:=aa (HT.out _ (bN w nq));generalize hX:aG 0 (lift (rt s en i) n)=X at HX;refine HX.out.mono ?_;intro e u hx;cases X with
    | error y =>
     obtain ⟨a,v,i2,n2,rfl,⟨t,rfl⟩,d,f⟩:=hx;have H3:=aa (And.intro a (And.intro d f));clear d f HX a;go_wp2;go_ret;refine tV.out _ hX _ _ ?_;exact ⟨H3.out.1,_,i2,n2,rfl,⟨t,rfl⟩,H3.out.2.1,H3.out.2.2⟩
    | ok x =>
     obtain ⟨x,j,m⟩:=x;obtain ⟨v,rfl,hv,d,f⟩:=hx;have hv:v=.int .i64 x:=hv;subst hv;have H3:=aa (And.intro d f);clear d f HX;go_wp2;go_ret;refine tV.out _ hX _ _ ?_;exact ⟨_,rfl,rfl,H3.out.1,H3.out.2⟩
  ·have hnx:nx s en i=.error 50:=by unfold nx;rw [if_neg hi]
   have dl:decide ((i:Int)<(en:Int))=false:=decide_eq_false (by omega);have e1:jh s en i=rt s en i:=by unfold jh rt;rw [hnx];rfl
   rw [e1];clear h;have tV:Hid (∀X,aG 0 (lift (rt s en i) n)=X->∀e w',DR w0 p s en fS i0 w X e w'->DR w0 p s en fS i0 w (aG 0 (lift (rt s en i) n)) e w'):=aa fun X hX _ _ h=>hX ▸ h;go_enter Tryz.func94,Tryz.ntmps94;go_wp2_with fail;go_quiet (fail);go_wp2_with fail;have HX:=aa (HT.out _ (bN w nq));generalize hX:aG 0 (lift (rt s en i) n)=X at HX;refine HX.out.mono ?_;intro e u hx;cases X with
   | error y =>
    obtain ⟨a,v,i2,n2,rfl,⟨t,rfl⟩,d,f⟩:=hx;have H3:=aa (And.intro a (And.intro d f));clear d f HX a;go_wp2;go_ret;refine tV.out _ hX _ _ ?_;exact ⟨H3.out.1,_,i2,n2,rfl,⟨t,rfl⟩,H3.out.2.1,H3.out.2.2⟩
   | ok x =>
    obtain ⟨x,j,m⟩:=x;obtain ⟨v,rfl,hv,d,f⟩:=hx;have hv:v=.int .i64 x:=hv;subst hv;have H3:=aa (And.intro d f);clear d f HX;go_wp2;go_ret;refine tV.out _ hX _ _ ?_;exact ⟨_,rfl,rfl,H3.out.1,H3.out.2⟩
 ·have q1:(z == 0)=false:=by simp [hz]
  have e1:aG z (lift (jh s en i) n)=aG z (lift (rt s en i) n):=by unfold aG;rw [if_neg hz,if_neg hz]
  rw [e1];clear h;have tV:Hid (∀X,aG z (lift (rt s en i) n)=X->∀e w',DR w0 p s en fS i0 w X e w'->DR w0 p s en fS i0 w (aG z (lift (rt s en i) n)) e w'):=aa fun X hX _ _ h=>hX ▸ h;go_enter Tryz.func94,Tryz.ntmps94;go_wp2_with fail;go_quiet (fail);go_wp2_with fail;have HX:=aa (HT.out _ (bN w nq));generalize hX:aG z (lift (rt s en i) n)=X at HX;refine HX.out.mono ?_;intro e u hx;cases X with
  | error y =>
   obtain ⟨a,v,i2,n2,rfl,⟨t,rfl⟩,d,f⟩:=hx;have H3:=aa (And.intro a (And.intro d f));clear d f HX a;go_wp2;go_ret;refine tV.out _ hX _ _ ?_;exact ⟨H3.out.1,_,i2,n2,rfl,⟨t,rfl⟩,H3.out.2.1,H3.out.2.2⟩
  | ok x =>
   obtain ⟨x,j,m⟩:=x;obtain ⟨v,rfl,hv,d,f⟩:=hx;have hv:v=.int .i64 x:=hv;subst hv;have H3:=aa (And.intro d f);clear d f HX;go_wp2;go_ret;refine tV.out _ hX _ _ ?_;exact ⟨_,rfl,rfl,H3.out.1,H3.out.2⟩
end
namespace ai
def s0 (v:Value) (_:World):Prop:=∃o n k,v=.slice o n k
theorem DS.grown {w0 w w9:World} {p:Nat} {s:ByteArray} {en i n:Nat} {z:Int} {o:Option Nat} (h:DS w0 p s en i n z w) (hg:w.grownBy w9 o) (ho:∀q,o=some q->p<q):DS w0 p s en i n z w9 :=
 ⟨h.below.grown hg h.below.size (fun q hq=>by have:=ho q hq;have:=h.base;omega),h.base,by rw [hg.block p h.lt (fun e=>by have:=ho p e.symm;omega)];exact h.blk,h.le,h.len,h.big⟩
def LL (w0:World) (p:Nat) (s:ByteArray) (en n:Nat) (w:World) (m:Nat) (R:R2 (List Int)) (q:Nat) (t:Value) (wr:World):Prop :=
 (∃(l:List Int) (jq:Nat),l.length=q/\(∃o c,t=.slice o q c)/\R=lift (pre l (rep (ru s en) (m-q) jq)) n/\DS w0 p s en jq n 0 wr/\wr.ownsRow w.heap.size 3 1 t q (l.map fun z=>Value.int .i64 z)) \/
 ∃y i' n',y≠0/\R=.error y/\(∃o k c,t=.slice o k c)/\DS w0 p s en i' n' y wr
end ai
theorem Fy (w0:World) (p:Nat) (s:ByteArray) (en i n:Nat) (z:Int) (w:World) (h:DS w0 p s en i n z w) :
  Calls Tryz.prog 65 #[.pointer (some ⟨p,0,none⟩)] w (DR w0 p s en (jN w.heap.size) s0 w (aG z (lift (rl s en i) n))):=by
 have HC:=aa (vY w0 p s en i n z w h);have hpw:=h.lt;have hlen:=h.len
 have hrc:∀x j m,aG z (lift (rc s en i) n)=.ok (x,j,m)->0<=x/\x<=4096/\m=n:=fun x j m hx=>by
  unfold aG at hx;by_cases hz:z=0
  ·rw [if_pos hz] at hx;have h1:=mR hx;have h2:=jl hlen h1.1;exact ⟨h2.2.2.1,h2.2.2.2,h1.2⟩
  ·rw [if_neg hz] at hx;cases hx
 clear h;unfold rl;rw [AX,AY];generalize aG z (lift (rc s en i) n)=X at HC hrc ⊢;cases X with
 | error y =>
  show Calls _ _ _ _ (DR w0 p s en (jN w.heap.size) s0 w (.error y));go_enter Tryz.func65,Tryz.ntmps65;go_wp2_with fail;refine HC.out.mono ?_;rintro e u ⟨hy,v,i2,n2,rfl,hv,h1,h2⟩;have hv:v=.int .i64 0:=hv;subst hv;have H1:=aa h1;have H2:=aa h2;have hy':=aa hy;clear h1 h2 HC hy hrc;go_wp2_with fail;go_loopw [3,5] (fun t u wr=>t=.slice none 0 0/\u=.int .i64 0/\Hid (DS w0 p s en i2 n2 y wr)/\Hid (But p w wr)) (fun _ _ _=>0)
  case atStart=>exact ⟨rfl,rfl,H1,H2⟩
  case round =>
   obtain ⟨rfl,rfl,HS,HB⟩:=hrel;go_wp2;go_ret;exact ⟨hy'.out,_,i2,n2,rfl,⟨_,_,_,rfl⟩,HS.out,HB.out⟩
 | ok v =>
  obtain ⟨x,j,m0⟩:=v;obtain ⟨b1,b2,rfl⟩:=hrc x j m0 rfl;obtain ⟨m,rfl⟩:∃m:Nat,x=(m:Int):=⟨x.toNat,by omega⟩;have hm:m<=4096:=by omega
  clear hrc;show Calls _ _ _ _ (DR w0 p s en (jN w.heap.size) s0 w (lift (rep (ru s en) (m:Int).toNat j) m0));rw [show ((m:Int).toNat)=m by omega];obtain ⟨R,hR⟩:∃R,R=lift (rep (ru s en) m j) m0:=⟨_,rfl⟩;rw [<- hR];have HR:=aa hR;clear hR;go_enter Tryz.func65,Tryz.ntmps65;go_wp2_with fail;refine HC.out.mono ?_;rintro e w1 ⟨v,rfl,hv,h1,h2⟩;have hv:v=.int .i64 m:=hv;subst hv;have H1:=aa h1;have H2:=aa h2;clear h1 h2 HC;go_wp2_with fail;go_loopw [3,5] (fun t u wr=>∃(q:Nat),q<=m/\u=.int .i64 q/\Hid (LL w0 p s en m0 w m R q t wr)/\Hid (But p w wr)) (fun _ u _=>m-(RowKit.intOf u).toNat)
  case atStart=>exact ⟨0,by omega,rfl,aa (.inl ⟨[],j,rfl,⟨none,0,rfl⟩,by rw [HR.out,pre_nil];rfl,H1.out,World.ownsRow_nil _ _ _ _⟩),H2⟩
  case round =>
   obtain ⟨q,hq,rfl,lS,HB⟩:=hrel;rcases lS.out with ⟨l,jq,hl,⟨oT,cT,rfl⟩,hP,hS,hO⟩|⟨y,i',n',hy,jm,⟨oT,kT,cT,rfl⟩,hS⟩
   ·have HP:=aa hP;have HS:=aa hS;have HO:=aa hO;have c4:=hS.cell 4 _ rfl;clear hP hS hO lS;by_cases hgo:q<m
    ·have hU:=yU w0 p s en jq m0 0 wr HS.out;obtain ⟨r,hr⟩:∃r,m-q=r+1:=⟨m-q-1,by omega⟩;have hst:aG 0 (lift (ru s en jq) m0)=lift (ru s en jq) m0:=rfl;rw [hst] at hU;cases hu:ru s en jq with
     | error y =>
      rw [hu] at hU;have HU:=aa hU;have HZ:Hid (R=.error y):=aa (by rw [HP.out,hr,mS l _ r jq y hu];rfl);clear hU hu HP;go_wp2_with fail;refine HU.out.mono ?_;rintro e w2 ⟨hy,v,i2,n2,rfl,hv,h1,h2⟩;have hv:v=.int .i64 0:=hv;subst hv;have aU:=aa ((fA HO.out hpw h2).alloc (.cells #[.int .i64 0] 3));have HN:=aa (qU w2 (.int .i64 0) 3);have HB2:=aa ((HB.out.trans h2).trans (But.of p (aD w2 (.cells #[.int .i64 0] 3))));have az:=aa (h1.on (aD w2 (.cells #[.int .i64 0] 3)));have bY:Hid (w.heap.size<=w2.heap.size):=aa (Nat.le_trans HB.out.size h2.size);have HY:=aa hy;clear h1 h2 HU HO HS HB hy;obtain ⟨i0,hi,hz0,hz1,hz2⟩:=info_parts qV;go_wp2_with (first|(at_builtin;refine iN rfl _ _ 29 rfl w.heap.size 3 i0 _ 1 8 Tryz.underlying29 hi hz0 hz1 hz2 rfl (by decide) _ _ _ rfl aU.out (some ⟨w2.heap.size,0,none⟩) 1 1 [.int .i64 0] rfl ?c6 ?c0 ?c1 ?c2 ?c3 ?c4 ?c5 ?_))
      case c6=>intro h;cases h
      case c0=>rfl
      case c1=>exact fun ad h=>by injection h with h;subst h;exact HN.out
      case c2=>exact fun u hu=>by rw [List.mem_singleton.1 hu];rfl
      case c3=>unfold maxLen;omega
      case c4=>omega
      case c5=>have:=bY.out;simp;omega
      intro v9 w9 aW aP _;have aS:∀q',(Value.slice oT q cT).ownBlock=some q'->w.heap.size<=q':=fun q' hq'=>(aU.out.lt q' hq').1;have bP:=aa (az.out.grown aP (fun q' hq'=>Nat.lt_of_lt_of_le hpw (aS q' hq')));have cG:=aa (But.grown (p:=p) HB2.out aP aS);have hsl:=fU aW;clear aW aP aS aU HN HB2 az;obtain ⟨oN,cN,rfl⟩:=hsl;go_wp2;go_roundw
      case rel=>exact ⟨q+1,by omega,by go_num,aa (.inr ⟨y,i2,n2,HY.out,HZ.out,⟨_,_,_,rfl⟩,bP.out⟩),cG⟩
      case measure=>simp [RowKit.intOf];omega
     | ok v =>
      obtain ⟨y,j2⟩:=v;rw [hu] at hU;have HU:=aa hU;have HZ:Hid (R=lift (pre (l++[y]) (rep (ru s en) (m-(q+1)) j2)) m0):=aa (by rw [HP.out,hr,pre_on l _ r jq y j2 hu,show m-(q+1)=r by omega]);clear hU hu HP;go_wp2_with fail;refine HU.out.mono ?_;rintro e w2 ⟨v,rfl,hv,h1,h2⟩;have hv:v=.int .i64 y:=hv;subst hv;have aU:=aa ((fA HO.out hpw h2).alloc (.cells #[.int .i64 y] 3));have HN:=aa (qU w2 (.int .i64 y) 3);have HB2:=aa ((HB.out.trans h2).trans (But.of p (aD w2 (.cells #[.int .i64 y] 3))));have az:=aa (h1.on (aD w2 (.cells #[.int .i64 y] 3)));have bY:Hid (w.heap.size<=w2.heap.size):=aa (Nat.le_trans HB.out.size h2.size);clear h1 h2 HU HO HS HB;obtain ⟨i0,hi,hz0,hz1,hz2⟩:=info_parts qV;go_wp2_with (first|(at_builtin;refine iN rfl _ _ 29 rfl w.heap.size 3 i0 _ 1 8 Tryz.underlying29 hi hz0 hz1 hz2 rfl (by decide) _ _ _ rfl aU.out (some ⟨w2.heap.size,0,none⟩) 1 1 [.int .i64 y] rfl ?c6 ?c0 ?c1 ?c2 ?c3 ?c4 ?c5 ?_))
      case c6=>intro h;cases h
      case c0=>rfl
      case c1=>exact fun ad h=>by injection h with h;subst h;exact HN.out
      case c2=>exact fun u hu=>by rw [List.mem_singleton.1 hu];rfl
      case c3=>unfold maxLen;omega
      case c4=>omega
      case c5=>have:=bY.out;simp;omega
      intro v9 w9 aW aP _;have aS:∀q',(Value.slice oT q cT).ownBlock=some q'->w.heap.size<=q':=fun q' hq'=>(aU.out.lt q' hq').1;have bP:=aa (az.out.grown aP (fun q' hq'=>Nat.lt_of_lt_of_le hpw (aS q' hq')));have cG:=aa (But.grown (p:=p) HB2.out aP aS);have dF:Hid (w9.ownsRow w.heap.size 3 1 v9 (q+1) ((l++[y]).map fun z=>Value.int .i64 z)):=aa (by rw [List.map_append];exact aW);have hsl:=fU aW;clear aW aP aS aU HN HB2 az;obtain ⟨oN,cN,rfl⟩:=hsl;go_wp2;go_roundw
      case rel=>exact ⟨q+1,by omega,by go_num,aa (.inl ⟨l++[y],j2,by simp [hl],⟨_,_,rfl⟩,HZ.out,bP.out,dF.out⟩),cG⟩
      case measure=>simp [RowKit.intOf];omega
    ·obtain rfl:q=m:=by omega
     have HZ:Hid (R=.ok (l,jq,m0)):=aa (by rw [HP.out,Nat.sub_self,mU];rfl);have HV:Hid (jN w.heap.size l (.slice oT q cT) wr):=aa (vZ (l:=l) (by rw [hl];exact HO.out) (by omega));clear HP HO;go_wp2;go_ret;rw [HZ.out];exact ⟨_,rfl,HV.out,HS.out,HB.out⟩
   ·have c4:=hS.cell 4 _ rfl;have HS:=aa hS;have HZ:=aa jm;have HY:=aa hy;have q1:(y == 0)=false:=by simp [hy]
    clear hS jm lS hy;by_cases hgo:q<m
    ·go_wp2;go_ret;rw [HZ.out];exact ⟨HY.out,_,i',n',rfl,⟨_,_,_,rfl⟩,HS.out,HB.out⟩
    ·go_wp2;go_ret;rw [HZ.out];exact ⟨HY.out,_,i',n',rfl,⟨_,_,_,rfl⟩,HS.out,HB.out⟩
end Go.Proofs.YtegboefdolfdgaaGreatDoor
namespace Go.Proofs.YtegboefdolfdgaaGreatDoor
open Go.RowKit aA
set_option linter.unusedVariables false
set_option maxHeartbeats 1000000
theorem Qz (op:Int) (w:World) (h:op<=-1):Calls Tryz.prog 81 #[.int .i64 op] w fun e w'=>e=.returned (.int .i64 0)/\w'=w:=by
 have hs:=cB op;have hp:decide (0<(aQ.sig op).1)=false:=by exact decide_eq_false (fun hp=>by have:=hs.1 hp;omega)
 clear hs;have q0:(op == 0)=false:=by rw [beq_eq_false_iff_ne];omega
 have q1:(op == 1)=false:=by rw [beq_eq_false_iff_ne];omega
 have ed:(op == 15)=false:=by rw [beq_eq_false_iff_ne];omega
 have ek:(op == 26)=false:=by rw [beq_eq_false_iff_ne];omega
 have eu:(op == 27)=false:=by rw [beq_eq_false_iff_ne];omega
 have ez:(op == 63)=false:=by rw [beq_eq_false_iff_ne];omega
 have eB:(op == 64)=false:=by rw [beq_eq_false_iff_ne];omega
 have q2:(op == 2)=false:=by rw [beq_eq_false_iff_ne];omega
 have q3:(op == 3)=false:=by rw [beq_eq_false_iff_ne];omega
 have q4:(op == 4)=false:=by rw [beq_eq_false_iff_ne];omega
 have eC:(op == 12)=false:=by rw [beq_eq_false_iff_ne];omega
 have eD:(op == 13)=false:=by rw [beq_eq_false_iff_ne];omega
 have eH:(op == 14)=false:=by rw [beq_eq_false_iff_ne];omega
 have q16:(op == 16)=false:=by rw [beq_eq_false_iff_ne];omega
 have eM:(op == 17)=false:=by rw [beq_eq_false_iff_ne];omega
 have eO:(op == 40)=false:=by rw [beq_eq_false_iff_ne];omega
 have eP:(op == 41)=false:=by rw [beq_eq_false_iff_ne];omega
 have eQ:(op == 65)=false:=by rw [beq_eq_false_iff_ne];omega
 have eT:(op == 66)=false:=by rw [beq_eq_false_iff_ne];omega
 have gq:(op == 42)=false:=by rw [beq_eq_false_iff_ne];omega
 have gu:(op == 43)=false:=by rw [beq_eq_false_iff_ne];omega
 have gy:(op == 56)=false:=by rw [beq_eq_false_iff_ne];omega
 have gz:(op == 57)=false:=by rw [beq_eq_false_iff_ne];omega
 have gA:(op == 67)=false:=by rw [beq_eq_false_iff_ne];omega
 have gD:(op == 68)=false:=by rw [beq_eq_false_iff_ne];omega
 have r32:decide (32<=op/\op<=36)=false:=decide_eq_false (by omega);have R32:=aj r32;clear r32;have bS:decide (44<=op/\op<=55)=false:=decide_eq_false (by omega);have fP:=aj bS;clear bS;have bT:decide (58<=op/\op<=62)=false:=decide_eq_false (by omega);have gF:=aj bT;clear bT;have bU:decide (91<=op/\op<=102)=false:=decide_eq_false (by omega);have gP:=aj bU;clear bU;have bV:decide (139<=op/\op<=166)=false:=decide_eq_false (by omega);have ia:=aj bV;clear bV;have bW:decide (168<=op/\op<=171)=false:=decide_eq_false (by omega);have iE:=aj bW;clear bW;have bX:decide (174<=op/\op<=191)=false:=decide_eq_false (by omega);have iT:=aj bX;clear bX;clear h;go_enter Tryz.func81,Tryz.ntmps81;go_wp2_with fail;refine (cE _ _).mono ?_;rintro e u ⟨rfl,rfl⟩;generalize aQ.sig op=t at *;go_wp2_with fail;refine (aO _ _ _ _).mono ?_;rintro e u ⟨rfl,rfl⟩;rw [R32.out];go_wp2_with fail;refine (aO _ _ _ _).mono ?_;rintro e u ⟨rfl,rfl⟩;rw [fP.out];go_wp2_with fail;refine (aO _ _ _ _).mono ?_;rintro e u ⟨rfl,rfl⟩;rw [gF.out];go_wp2_with fail;refine (aO _ _ _ _).mono ?_;rintro e u ⟨rfl,rfl⟩;rw [gP.out];go_wp2_with fail;refine (aO _ _ _ _).mono ?_;rintro e u ⟨rfl,rfl⟩;rw [ia.out];go_wp2_with fail;refine (aO _ _ _ _).mono ?_;rintro e u ⟨rfl,rfl⟩;rw [iE.out];go_wp2_with fail;refine (aO _ _ _ _).mono ?_;rintro e u ⟨rfl,rfl⟩;rw [iT.out];go_wp2;go_ret;exact ⟨rfl,rfl⟩
theorem QA (op:Int) (w:World) (h:0<=op/\op<=0):Calls Tryz.prog 81 #[.int .i64 op] w fun e w'=>e=.returned (.int .i64 1)/\w'=w:=by
 have hs:=cB op;have hp:decide (0<(aQ.sig op).1)=false:=by exact decide_eq_false (fun hp=>by have:=hs.1 hp;omega)
 clear hs;obtain rfl:op=0:=by omega
 clear h;go_enter Tryz.func81,Tryz.ntmps81;go_wp2_with fail;refine (cE _ _).mono ?_;rintro e u ⟨rfl,rfl⟩;generalize aQ.sig 0=t at *;go_wp2;go_ret;exact ⟨rfl,rfl⟩
theorem QB (op:Int) (w:World) (h:1<=op/\op<=1):Calls Tryz.prog 81 #[.int .i64 op] w fun e w'=>e=.returned (.int .i64 1)/\w'=w:=by
 have hs:=cB op;have hp:decide (0<(aQ.sig op).1)=false:=by exact decide_eq_false (fun hp=>by have:=hs.1 hp;omega)
 clear hs;obtain rfl:op=1:=by omega
 clear h;go_enter Tryz.func81,Tryz.ntmps81;go_wp2_with fail;refine (cE _ _).mono ?_;rintro e u ⟨rfl,rfl⟩;generalize aQ.sig 1=t at *;go_wp2;go_ret;exact ⟨rfl,rfl⟩
theorem QC (op:Int) (w:World) (h:2<=op/\op<=2):Calls Tryz.prog 81 #[.int .i64 op] w fun e w'=>e=.returned (.int .i64 2)/\w'=w:=by
 have hs:=cB op;have hp:decide (0<(aQ.sig op).1)=false:=by exact decide_eq_false (fun hp=>by have:=hs.1 hp;omega)
 clear hs;obtain rfl:op=2:=by omega
 clear h;go_enter Tryz.func81,Tryz.ntmps81;go_wp2_with fail;refine (cE _ _).mono ?_;rintro e u ⟨rfl,rfl⟩;generalize aQ.sig 2=t at *;go_wp2;go_ret;exact ⟨rfl,rfl⟩
theorem QD (op:Int) (w:World) (h:3<=op/\op<=3):Calls Tryz.prog 81 #[.int .i64 op] w fun e w'=>e=.returned (.int .i64 2)/\w'=w:=by
 have hs:=cB op;have hp:decide (0<(aQ.sig op).1)=false:=by exact decide_eq_false (fun hp=>by have:=hs.1 hp;omega)
 clear hs;obtain rfl:op=3:=by omega
 clear h;go_enter Tryz.func81,Tryz.ntmps81;go_wp2_with fail;refine (cE _ _).mono ?_;rintro e u ⟨rfl,rfl⟩;generalize aQ.sig 3=t at *;go_wp2;go_ret;exact ⟨rfl,rfl⟩
theorem QE (op:Int) (w:World) (h:4<=op/\op<=4):Calls Tryz.prog 81 #[.int .i64 op] w fun e w'=>e=.returned (.int .i64 3)/\w'=w:=by
 have hs:=cB op;have hp:decide (0<(aQ.sig op).1)=false:=by exact decide_eq_false (fun hp=>by have:=hs.1 hp;omega)
 clear hs;obtain rfl:op=4:=by omega
 clear h;go_enter Tryz.func81,Tryz.ntmps81;go_wp2_with fail;refine (cE _ _).mono ?_;rintro e u ⟨rfl,rfl⟩;generalize aQ.sig 4=t at *;go_wp2;go_ret;exact ⟨rfl,rfl⟩
theorem QF (op:Int) (w:World) (h:5<=op/\op<=11):Calls Tryz.prog 81 #[.int .i64 op] w fun e w'=>e=.returned (.int .i64 0)/\w'=w:=by
 have hs:=cB op;have hp:decide (0<(aQ.sig op).1)=false:=by exact decide_eq_false (fun hp=>by have:=hs.1 hp;omega)
 clear hs;have q0:(op == 0)=false:=by rw [beq_eq_false_iff_ne];omega
 have q1:(op == 1)=false:=by rw [beq_eq_false_iff_ne];omega
 have ed:(op == 15)=false:=by rw [beq_eq_false_iff_ne];omega
 have ek:(op == 26)=false:=by rw [beq_eq_false_iff_ne];omega
 have eu:(op == 27)=false:=by rw [beq_eq_false_iff_ne];omega
 have ez:(op == 63)=false:=by rw [beq_eq_false_iff_ne];omega
 have eB:(op == 64)=false:=by rw [beq_eq_false_iff_ne];omega
 have q2:(op == 2)=false:=by rw [beq_eq_false_iff_ne];omega
 have q3:(op == 3)=false:=by rw [beq_eq_false_iff_ne];omega
 have q4:(op == 4)=false:=by rw [beq_eq_false_iff_ne];omega
 have eC:(op == 12)=false:=by rw [beq_eq_false_iff_ne];omega
 have eD:(op == 13)=false:=by rw [beq_eq_false_iff_ne];omega
 have eH:(op == 14)=false:=by rw [beq_eq_false_iff_ne];omega
 have q16:(op == 16)=false:=by rw [beq_eq_false_iff_ne];omega
 have eM:(op == 17)=false:=by rw [beq_eq_false_iff_ne];omega
 have eO:(op == 40)=false:=by rw [beq_eq_false_iff_ne];omega
 have eP:(op == 41)=false:=by rw [beq_eq_false_iff_ne];omega
 have eQ:(op == 65)=false:=by rw [beq_eq_false_iff_ne];omega
 have eT:(op == 66)=false:=by rw [beq_eq_false_iff_ne];omega
 have gq:(op == 42)=false:=by rw [beq_eq_false_iff_ne];omega
 have gu:(op == 43)=false:=by rw [beq_eq_false_iff_ne];omega
 have gy:(op == 56)=false:=by rw [beq_eq_false_iff_ne];omega
 have gz:(op == 57)=false:=by rw [beq_eq_false_iff_ne];omega
 have gA:(op == 67)=false:=by rw [beq_eq_false_iff_ne];omega
 have gD:(op == 68)=false:=by rw [beq_eq_false_iff_ne];omega
 have r32:decide (32<=op/\op<=36)=false:=decide_eq_false (by omega);have R32:=aj r32;clear r32;have bS:decide (44<=op/\op<=55)=false:=decide_eq_false (by omega);have fP:=aj bS;clear bS;have bT:decide (58<=op/\op<=62)=false:=decide_eq_false (by omega);have gF:=aj bT;clear bT;have bU:decide (91<=op/\op<=102)=false:=decide_eq_false (by omega);have gP:=aj bU;clear bU;have bV:decide (139<=op/\op<=166)=false:=decide_eq_false (by omega);have ia:=aj bV;clear bV;have bW:decide (168<=op/\op<=171)=false:=decide_eq_false (by omega);have iE:=aj bW;clear bW;have bX:decide (174<=op/\op<=191)=false:=decide_eq_false (by omega);have iT:=aj bX;clear bX;clear h;go_enter Tryz.func81,Tryz.ntmps81;go_wp2_with fail;refine (cE _ _).mono ?_;rintro e u ⟨rfl,rfl⟩;generalize aQ.sig op=t at *;go_wp2_with fail;refine (aO _ _ _ _).mono ?_;rintro e u ⟨rfl,rfl⟩;rw [R32.out];go_wp2_with fail;refine (aO _ _ _ _).mono ?_;rintro e u ⟨rfl,rfl⟩;rw [fP.out];go_wp2_with fail;refine (aO _ _ _ _).mono ?_;rintro e u ⟨rfl,rfl⟩;rw [gF.out];go_wp2_with fail;refine (aO _ _ _ _).mono ?_;rintro e u ⟨rfl,rfl⟩;rw [gP.out];go_wp2_with fail;refine (aO _ _ _ _).mono ?_;rintro e u ⟨rfl,rfl⟩;rw [ia.out];go_wp2_with fail;refine (aO _ _ _ _).mono ?_;rintro e u ⟨rfl,rfl⟩;rw [iE.out];go_wp2_with fail;refine (aO _ _ _ _).mono ?_;rintro e u ⟨rfl,rfl⟩;rw [iT.out];go_wp2;go_ret;exact ⟨rfl,rfl⟩
theorem QG (op:Int) (w:World) (h:12<=op/\op<=12):Calls Tryz.prog 81 #[.int .i64 op] w fun e w'=>e=.returned (.int .i64 4)/\w'=w:=by
 have hs:=cB op;have hp:decide (0<(aQ.sig op).1)=false:=by exact decide_eq_false (fun hp=>by have:=hs.1 hp;omega)
 clear hs;obtain rfl:op=12:=by omega
 clear h;go_enter Tryz.func81,Tryz.ntmps81;go_wp2_with fail;refine (cE _ _).mono ?_;rintro e u ⟨rfl,rfl⟩;generalize aQ.sig 12=t at *;go_wp2;go_ret;exact ⟨rfl,rfl⟩
theorem QH (op:Int) (w:World) (h:13<=op/\op<=13):Calls Tryz.prog 81 #[.int .i64 op] w fun e w'=>e=.returned (.int .i64 4)/\w'=w:=by
 have hs:=cB op;have hp:decide (0<(aQ.sig op).1)=false:=by exact decide_eq_false (fun hp=>by have:=hs.1 hp;omega)
 clear hs;obtain rfl:op=13:=by omega
 clear h;go_enter Tryz.func81,Tryz.ntmps81;go_wp2_with fail;refine (cE _ _).mono ?_;rintro e u ⟨rfl,rfl⟩;generalize aQ.sig 13=t at *;go_wp2;go_ret;exact ⟨rfl,rfl⟩
theorem QI (op:Int) (w:World) (h:14<=op/\op<=14):Calls Tryz.prog 81 #[.int .i64 op] w fun e w'=>e=.returned (.int .i64 5)/\w'=w:=by
 have hs:=cB op;have hp:decide (0<(aQ.sig op).1)=false:=by exact decide_eq_false (fun hp=>by have:=hs.1 hp;omega)
 clear hs;obtain rfl:op=14:=by omega
 clear h;go_enter Tryz.func81,Tryz.ntmps81;go_wp2_with fail;refine (cE _ _).mono ?_;rintro e u ⟨rfl,rfl⟩;generalize aQ.sig 14=t at *;go_wp2;go_ret;exact ⟨rfl,rfl⟩
theorem QJ (op:Int) (w:World) (h:15<=op/\op<=15):Calls Tryz.prog 81 #[.int .i64 op] w fun e w'=>e=.returned (.int .i64 1)/\w'=w:=by
 have hs:=cB op;have hp:decide (0<(aQ.sig op).1)=false:=by exact decide_eq_false (fun hp=>by have:=hs.1 hp;omega)
 clear hs;obtain rfl:op=15:=by omega
 clear h;go_enter Tryz.func81,Tryz.ntmps81;go_wp2_with fail;refine (cE _ _).mono ?_;rintro e u ⟨rfl,rfl⟩;generalize aQ.sig 15=t at *;go_wp2;go_ret;exact ⟨rfl,rfl⟩
theorem QK (op:Int) (w:World) (h:16<=op/\op<=16):Calls Tryz.prog 81 #[.int .i64 op] w fun e w'=>e=.returned (.int .i64 6)/\w'=w:=by
 have hs:=cB op;have hp:decide (0<(aQ.sig op).1)=false:=by exact decide_eq_false (fun hp=>by have:=hs.1 hp;omega)
 clear hs;obtain rfl:op=16:=by omega
 clear h;go_enter Tryz.func81,Tryz.ntmps81;go_wp2_with fail;refine (cE _ _).mono ?_;rintro e u ⟨rfl,rfl⟩;generalize aQ.sig 16=t at *;go_wp2;go_ret;exact ⟨rfl,rfl⟩
theorem QL (op:Int) (w:World) (h:17<=op/\op<=17):Calls Tryz.prog 81 #[.int .i64 op] w fun e w'=>e=.returned (.int .i64 7)/\w'=w:=by
 have hs:=cB op;have hp:decide (0<(aQ.sig op).1)=false:=by exact decide_eq_false (fun hp=>by have:=hs.1 hp;omega)
 clear hs;obtain rfl:op=17:=by omega
 clear h;go_enter Tryz.func81,Tryz.ntmps81;go_wp2_with fail;refine (cE _ _).mono ?_;rintro e u ⟨rfl,rfl⟩;generalize aQ.sig 17=t at *;go_wp2_with fail;refine (aO _ _ _ _).mono ?_;rintro e u ⟨rfl,rfl⟩;rw [show decide ((32:Int)<=17/\(17:Int)<=36)=false by decide];go_wp2;go_ret;exact ⟨rfl,rfl⟩
theorem QM (op:Int) (w:World) (h:18<=op/\op<=25):Calls Tryz.prog 81 #[.int .i64 op] w fun e w'=>e=.returned (.int .i64 0)/\w'=w:=by
 have hs:=cB op;have hp:decide (0<(aQ.sig op).1)=false:=by exact decide_eq_false (fun hp=>by have:=hs.1 hp;omega)
 clear hs;have q0:(op == 0)=false:=by rw [beq_eq_false_iff_ne];omega
 have q1:(op == 1)=false:=by rw [beq_eq_false_iff_ne];omega
 have ed:(op == 15)=false:=by rw [beq_eq_false_iff_ne];omega
 have ek:(op == 26)=false:=by rw [beq_eq_false_iff_ne];omega
 have eu:(op == 27)=false:=by rw [beq_eq_false_iff_ne];omega
 have ez:(op == 63)=false:=by rw [beq_eq_false_iff_ne];omega
 have eB:(op == 64)=false:=by rw [beq_eq_false_iff_ne];omega
 have q2:(op == 2)=false:=by rw [beq_eq_false_iff_ne];omega
 have q3:(op == 3)=false:=by rw [beq_eq_false_iff_ne];omega
 have q4:(op == 4)=false:=by rw [beq_eq_false_iff_ne];omega
 have eC:(op == 12)=false:=by rw [beq_eq_false_iff_ne];omega
 have eD:(op == 13)=false:=by rw [beq_eq_false_iff_ne];omega
 have eH:(op == 14)=false:=by rw [beq_eq_false_iff_ne];omega
 have q16:(op == 16)=false:=by rw [beq_eq_false_iff_ne];omega
 have eM:(op == 17)=false:=by rw [beq_eq_false_iff_ne];omega
 have eO:(op == 40)=false:=by rw [beq_eq_false_iff_ne];omega
 have eP:(op == 41)=false:=by rw [beq_eq_false_iff_ne];omega
 have eQ:(op == 65)=false:=by rw [beq_eq_false_iff_ne];omega
 have eT:(op == 66)=false:=by rw [beq_eq_false_iff_ne];omega
 have gq:(op == 42)=false:=by rw [beq_eq_false_iff_ne];omega
 have gu:(op == 43)=false:=by rw [beq_eq_false_iff_ne];omega
 have gy:(op == 56)=false:=by rw [beq_eq_false_iff_ne];omega
 have gz:(op == 57)=false:=by rw [beq_eq_false_iff_ne];omega
 have gA:(op == 67)=false:=by rw [beq_eq_false_iff_ne];omega
 have gD:(op == 68)=false:=by rw [beq_eq_false_iff_ne];omega
 have r32:decide (32<=op/\op<=36)=false:=decide_eq_false (by omega);have R32:=aj r32;clear r32;have bS:decide (44<=op/\op<=55)=false:=decide_eq_false (by omega);have fP:=aj bS;clear bS;have bT:decide (58<=op/\op<=62)=false:=decide_eq_false (by omega);have gF:=aj bT;clear bT;have bU:decide (91<=op/\op<=102)=false:=decide_eq_false (by omega);have gP:=aj bU;clear bU;have bV:decide (139<=op/\op<=166)=false:=decide_eq_false (by omega);have ia:=aj bV;clear bV;have bW:decide (168<=op/\op<=171)=false:=decide_eq_false (by omega);have iE:=aj bW;clear bW;have bX:decide (174<=op/\op<=191)=false:=decide_eq_false (by omega);have iT:=aj bX;clear bX;clear h;go_enter Tryz.func81,Tryz.ntmps81;go_wp2_with fail;refine (cE _ _).mono ?_;rintro e u ⟨rfl,rfl⟩;generalize aQ.sig op=t at *;go_wp2_with fail;refine (aO _ _ _ _).mono ?_;rintro e u ⟨rfl,rfl⟩;rw [R32.out];go_wp2_with fail;refine (aO _ _ _ _).mono ?_;rintro e u ⟨rfl,rfl⟩;rw [fP.out];go_wp2_with fail;refine (aO _ _ _ _).mono ?_;rintro e u ⟨rfl,rfl⟩;rw [gF.out];go_wp2_with fail;refine (aO _ _ _ _).mono ?_;rintro e u ⟨rfl,rfl⟩;rw [gP.out];go_wp2_with fail;refine (aO _ _ _ _).mono ?_;rintro e u ⟨rfl,rfl⟩;rw [ia.out];go_wp2_with fail;refine (aO _ _ _ _).mono ?_;rintro e u ⟨rfl,rfl⟩;rw [iE.out];go_wp2_with fail;refine (aO _ _ _ _).mono ?_;rintro e u ⟨rfl,rfl⟩;rw [iT.out];go_wp2;go_ret;exact ⟨rfl,rfl⟩
end Go.Proofs.YtegboefdolfdgaaGreatDoor
