/- Texts that the claim needs. -/
import Derived.Test.YtcfifbgemfladaaGreatDoorQDPa10
import Derived.Test.YtcfifbgemfladaaGreatDoorQDPa6
import Derived.Shelf.LaysM
import Derived.Shelf.Strconv.Clone
import Derived.Deep.Cut
import Derived.Test.YtcfifbgemfladaaGreatDoorQDPa7
namespace Go.Proofs.YtcfifbgemfladaaGreatDoor
open Go.RowKit au aI Go.Proofs.Tryz
set_option linter.unusedVariables false
set_option maxRecDepth 100000
set_option maxHeartbeats 4000000
section
variable (w0:AG) (p:Nat) (s:AH) (c:Nat->Value) (en k i n:Nat) (w:AG) (h:RS w0 p s c en k i n w)
include h
theorem uG (b:Int):Calls prog 95 #[.pointer (some ⟨p,0,none⟩),.int .i64 b] w (cz w0 p s c en k n Ko w (must s en b i)):=by
 have HC:=aa (xO w0 p s c en k i n w h);clear h;unfold must;cases hx:nx s en i with
 | error z =>
  rw [hx] at HC;rw [bW];clear hx;go_enter func95,ntmps95;go_wp2_with fail;refine HC.out.mono ?_;rintro e w1 ⟨rfl,hb⟩;exact ⟨rfl,rfl,hb⟩
 | ok v =>
  obtain ⟨x,j⟩:=v;rw [hx] at HC;rw [aK];clear hx;by_cases si:x=b
  ·rw [AE si];subst si;go_enter func95,ntmps95;go_wp2_with fail;refine HC.out.mono ?_;rintro e w1 ⟨⟨v,rfl,hv⟩,h1,h2⟩;have hv:v=.int .i64 x:=hv;subst hv;have HF:=aa (⟨h1,h2⟩:_/\_);clear h1 h2 HC;go_wp2_with fail;refine (dA _ _).mono ?_;rintro e w2 ⟨rfl,rfl⟩;go_wp2;go_end0;exact ⟨⟨_,rfl,rfl⟩,HF.out.1,HF.out.2⟩
  rw [AD si];have hq:(x==b)=false:=by rw [wY];exact si
  go_enter func95,ntmps95;go_wp2_with fail;refine HC.out.mono ?_;rintro e w1 ⟨⟨v,rfl,hv⟩,h1,h2⟩;have hv:v=.int .i64 x:=hv;subst hv;have HF:=aa h1.below;clear h1 h2 HC;go_wp2_with fail;refine (iX _ _).mono ?_;rintro e w2 ⟨rfl,rfl⟩;exact ⟨rfl,rfl,HF.out⟩
theorem jU:Calls prog 69 #[.pointer (some ⟨p,0,none⟩)] w (cz w0 p s c en k n BQ w (ru s en i)):=by
 have c0:=h.cell 0 _ rfl;have c1:=h.cell 1 _ rfl;have c2:=h.cell 2 _ rfl;have hle:=h.len;have hz:(s.extract 0 en).size=en:=by rw [ByteArray.size_extract];omega
 have HU:=λu=>aa (c14 (s.extract 0 en) i 32 u (by have:=h.big;omega));have H:=aa h;have ht:((en:Int).toNat)=en:=by omega
 unfold ru;obtain ⟨N,hN⟩:∃N,N=(af.ig (s.extract 0 en) i 32).1:=⟨_,rfl⟩;obtain ⟨J,hJ⟩:∃J,J=(af.ig (s.extract 0 en) i 32).2.1:=⟨_,rfl⟩;obtain ⟨E,hE⟩:∃E,E=(af.ig (s.extract 0 en) i 32).2.2:=⟨_,rfl⟩;have hok:=RQ (s.extract 0 en) i;rw [<- hN,<- hJ,<- hE,hz] at hok;rw [<- hN,<- hJ,<- hE];simp only [<- hN,<- hJ,<- hE] at HU;clear hN hJ hE h;by_cases he:E=0
 ·rw [AE he];obtain ⟨b1,b2,b3,b4⟩:=hok he;obtain ⟨j,rfl⟩:∃j:Nat,J=(j:Int):=⟨J.toNat,by omega⟩;subst he;have hw:wrap64 N=N:=by unfold wrap64;omega
  have Du:((j:Int).toNat)=j:=by omega
  rw [Du];have HB:Hid (j<=en):=aa (by omega);clear hok hz Du b1 b2;go_enter func69,ntmps69;go_wp2_with fail;go_region_with (first|(go_at_call 91;refine (HU _).out.mono ?_;rintro e u ⟨rfl,hb⟩))
  all_goals (
   have HB1:=aa hb;have HR:=aa ((H.out.on (mE w 1)).on hb);have f1:=HR.out.ax 1;have d1:=HR.out.cell 1 _ rfl;have AL:Hid (But p w u):=aa ((But.of p (wX w)).trans (But.of p hb));clear hb HU HB1;go_wp2_with fail;refine (dA _ _).mono ?_;rintro e u2 ⟨rfl,rfl⟩;go_wp2;go_ret;exact ⟨⟨_,rfl,rfl⟩,HR.out.at_ HB.out,AL.out.trans (But.set p 1 _ _)⟩)
 rw [AD he];have hq:(E==0)=false:=by rw [wY];exact he
 clear hok hz;go_enter func69,ntmps69;go_wp2_with fail;go_region_with (first|(go_at_call 91;refine (HU _).out.mono ?_;rintro e u ⟨rfl,hb⟩))
 all_goals (
  have HB1:=aa ((H.out.below.drew).trans (hb.mono (by have:=H.out.below.size;simp;omega)));clear hb HU;go_wp2_with fail;refine (iX _ _).mono ?_;rintro e u2 ⟨rfl,rfl⟩;exact ⟨rfl,rfl,HB1.out⟩)
end
namespace aI
def GV (w0:AG) (b:Int) (w:AG) (e:Ending) (w':AG):Prop :=
 w'=w/\match pg b 0 with
 | .ok (a,_)=>e=.returned (.int .i64 a)
 | .error z=>e=.panicked (gave z)
theorem PD (b:Int) (i:Nat):pg b i=bd (pg b 0) λa _=>.ok (a,i):=by
 unfold pg;split
 ·rfl
 split
 ·rfl
 rfl
end aI
theorem PE (w0:AG) (b:Int) (w:AG):Calls prog 109 #[.int .i64 b] w (GV w0 b w):=by
 unfold GV;by_cases h1:b=124\/b=125
 ·have e:pg b 0=.error 51:=by unfold pg;rw [AE h1]
  rw [e];rcases h1 with rfl|rfl
  all_goals
   clear e;go_enter func109,ntmps109;go_wp2_with fail;refine (iX _ _).mono ?_;rintro e u ⟨rfl,rfl⟩;exact ⟨rfl,rfl,rfl⟩
 have q1:(b != 124)=true:=by simp;omega
 have q2:(b != 125)=true:=by simp;omega
 by_cases h2:b=127\/b=126
 ·have e:pg b 0=.ok (b,0):=by unfold pg;rw [AD h1,AE h2]
  rw [e];rcases h2 with rfl|rfl
  all_goals
   clear e h1 q1 q2;go_enter func109,ntmps109;go_wp2_with fail;refine (dA _ _).mono ?_;rintro e u ⟨rfl,rfl⟩;go_wp2_with fail;refine (dA _ _).mono ?_;rintro e u ⟨rfl,rfl⟩;go_wp2;go_ret;exact ⟨rfl,rfl⟩
 have e:pg b 0=.error 50:=by unfold pg;rw [AD h1,AD h2]
 rw [e];have q3:(b==127)=false:=by simp;omega
 have q4:(b==126)=false:=by simp;omega
 clear e h1 h2;go_enter func109,ntmps109;go_wp2_with fail;refine (dA _ _).mono ?_;rintro e u ⟨rfl,rfl⟩;go_wp2_with fail;refine (iX _ _).mono ?_;rintro e u ⟨rfl,rfl⟩;exact ⟨rfl,rfl,rfl⟩
section
variable (w0:AG) (p:Nat) (s:AH) (c:Nat->Value) (en k i n:Nat) (w:AG) (h:RS w0 p s c en k i n w)
include h
theorem Zf:Calls prog 133 #[.pointer (some ⟨p,0,none⟩)] w (cz w0 p s c en k n BQ w (AR s en i)):=by
 have HC:=aa (xO w0 p s c en k i n w h);clear h;unfold AR;cases hx:nx s en i with
 | error z =>
  rw [hx] at HC;rw [bW];clear hx;go_enter func133,ntmps133;go_wp2_with fail;refine HC.out.mono ?_;rintro e w1 ⟨rfl,hb⟩;exact ⟨rfl,rfl,hb⟩
 | ok v =>
  obtain ⟨b,j⟩:=v;rw [hx] at HC;rw [aK];clear hx;by_cases h6:b=64
  ·rw [AE h6];subst h6;go_enter func133,ntmps133;go_wp2_with fail;refine HC.out.mono ?_;rintro e w1 ⟨⟨v,rfl,hv⟩,h1,h2⟩;have hv:v=.int .i64 64:=hv;subst hv;have HF:=aa (⟨h1,h2⟩:_/\_);clear h1 h2 HC;go_wp2;go_ret;exact ⟨⟨_,rfl,rfl⟩,HF.out.1,HF.out.2⟩
  rw [AD h6];have hq:(b==64)=false:=by rw [wY];exact h6
  rw [PD];have HV:=λu=>aa (PE w0 b u);unfold GV at HV;cases hv0:pg b 0 with
  | error z =>
   rw [bW];rw [hv0] at HV;clear hv0;go_enter func133,ntmps133;go_wp2_with fail;refine HC.out.mono ?_;rintro e w1 ⟨⟨v,rfl,hv⟩,h1,h2⟩;have hv:v=.int .i64 b:=hv;subst hv;have HF:=aa h1.below;clear h1 h2 HC;go_wp2_with fail;refine (HV _).out.mono ?_;rintro e w2 ⟨rfl,rfl⟩;exact ⟨rfl,rfl,HF.out⟩
  | ok v =>
   obtain ⟨a,i0⟩:=v;rw [aK];rw [hv0] at HV;clear hv0;go_enter func133,ntmps133;go_wp2_with fail;refine HC.out.mono ?_;rintro e w1 ⟨⟨v,rfl,hv⟩,h1,h2⟩;have hv:v=.int .i64 b:=hv;subst hv;have HF:=aa (⟨h1,h2⟩:_/\_);clear h1 h2 HC;go_wp2_with fail;refine (HV _).out.mono ?_;rintro e w2 ⟨rfl,rfl⟩;go_wp2;go_ret;exact ⟨⟨_,rfl,rfl⟩,HF.out.1,HF.out.2⟩
theorem tN:Calls prog 94 #[.pointer (some ⟨p,0,none⟩)] w (cz w0 p s c en k n BQ w (rc s en i)):=by
 have HC:=aa (jU w0 p s c en k i n w h);clear h;unfold rc;cases hx:ru s en i with
 | error z =>
  rw [hx] at HC;rw [bW];clear hx;go_enter func94,ntmps94;go_wp2_with fail;refine HC.out.mono ?_;rintro e w1 ⟨rfl,hb⟩;exact ⟨rfl,rfl,hb⟩
 | ok v =>
  obtain ⟨x,j⟩:=v;rw [hx] at HC;rw [aK];clear hx;by_cases si:x<=4096
  ·rw [AE si];have hd:decide (x<=(4096:Int))=true:=ay si;go_enter func94,ntmps94;go_wp2_with fail;refine HC.out.mono ?_;rintro e w1 ⟨⟨v,rfl,hv⟩,h1,h2⟩;have hv:v=.int .i64 x:=hv;subst hv;have HF:=aa (⟨h1,h2⟩:_/\_);clear h1 h2 HC;go_wp2_with fail;refine (dA _ _).mono ?_;rintro e w2 ⟨rfl,rfl⟩;go_wp2;go_ret;exact ⟨⟨_,rfl,rfl⟩,HF.out.1,HF.out.2⟩
  rw [AD si];have hq:decide (x<=(4096:Int))=false:=aj si;go_enter func94,ntmps94;go_wp2_with fail;refine HC.out.mono ?_;rintro e w1 ⟨⟨v,rfl,hv⟩,h1,h2⟩;have hv:v=.int .i64 x:=hv;subst hv;have HF:=aa h1.below;clear h1 h2 HC;go_wp2_with fail;refine (iX _ _).mono ?_;rintro e w2 ⟨rfl,rfl⟩;exact ⟨rfl,rfl,HF.out⟩
end
namespace aI
theorem qV {w w':AG} {B p:Nat} {e:TypeId} {size:Nat} {v:Value} {n:Nat} {xs:List Value} (h:w.ownsRow B e size v n xs) (hp:p<B) (hb:But p w w'):w'.ownsRow B e size v n xs :=
 ⟨h.1,h.2.imp id λ⟨g,cap,cur,h1,h2,h3,h4⟩=>⟨g,cap,cur,h1,h2,by rw [hb.block g (gX.1 h3).1 (λe=>by injection e with e;omega)];exact h3,h4⟩⟩
theorem Gx (w:AG) (x:Value) (t:TypeId):∀(j:Nat) (u:Value),[x][j]?=some u->(w.alloc (.cells #[x] t)).cell? ((⟨w.heap.size,0,none⟩:Addr).add j)=some u:=λj u hj=>by
 match j,hj with
 | 0,hj =>
  have:x=u:=by simpa using hj
  subst this;rw [uH,World.cell?_alloc_at _ t _ _ rfl];rfl
 | j+1,hj=>simp at hj
theorem But.grown {w wr w9:AG} {p:Nat} {o:Option Nat} (h:But p w wr) (hg:wr.grownBy w9 o) (ho:∀k,o=some k->w.heap.size<=k):But p w w9 :=
 ⟨hg.os.trans h.os,hg.tape.trans h.tape,hg.output.trans h.output,eU h.size hg.size,λk hk hp=>(hg.block k (jg hk h.size) (λe=>by have:=ho k e.symm;omega)).trans (h.block k hk hp)⟩
theorem RS.grown {w0 w w9:AG} {p:Nat} {s:AH} {c:Nat->Value} {en k i n:Nat} {o:Option Nat} (h:RS w0 p s c en k i n w) (hg:w.grownBy w9 o) (ho:∀q,o=some q->p<q):RS w0 p s c en k i n w9 :=
 ⟨h.below.grown hg h.below.size (λq hq=>by have:=ho q hq;have:=h.base;omega),h.base,by rw [hg.block p h.lt (λe=>by have:=ho p e.symm;omega)];exact h.blk,h.le,h.len,h.big⟩
def zr (B:Nat) (a:List Int) (v:Value) (w:AG):Prop:=aU w (Since B w none) v a
end aI
theorem Gy (w0:AG) (p:Nat) (s:AH) (c:Nat->Value) (en k i n:Nat) (w:AG) (h:RS w0 p s c en k i n w) :
  Calls prog 96 #[.pointer (some ⟨p,0,none⟩),.func (.func 69) #[.pointer (some ⟨p,0,none⟩)] #[]] w (cz w0 p s c en k n (zr w.heap.size) w (rl s en i)):=by
 have HC:=aa (tN w0 p s c en k i n w h);have hpw:=h.lt;have hlen:=h.len;have hle:=h.le;clear h;unfold rl;cases hx:rc s en i with
 | error z =>
  rw [hx] at HC;rw [bW];clear hx;go_enter func96,ntmps96;go_wp2_with fail;refine HC.out.mono ?_;rintro e w1 ⟨rfl,hb⟩;exact ⟨rfl,rfl,hb⟩
 | ok v =>
  obtain ⟨x,j⟩:=v;have hrc:=rW hlen hx;rw [hx] at HC;rw [aK];obtain ⟨m,rfl⟩:∃m:Nat,x=(m:Int):=⟨x.toNat,by omega⟩;have hm:m<=4096:=by omega
  rw [show ((m:Int).toNat)=m by omega];obtain ⟨R,hR⟩:∃R,R=rep (ru s en) m j:=⟨_,rfl⟩;rw [<- hR];have HR:=aa hR;clear hx hrc hR hlen hle;go_enter func96,ntmps96;go_wp2_with fail;refine HC.out.mono ?_;rintro e w1 ⟨⟨v,rfl,hv⟩,h1,h2⟩;have hv:v=.int .i64 m:=hv;subst hv;have H1:=aa h1;have H2:=aa h2;clear h1 h2 HC;go_wp2_with fail;go_loopw [5,8] (λt u wr=>∃(q:Nat) (l:List Int) (jq:Nat),q<=m/\u=.int .i64 q/\l.length=q/\(∃o c,t=.slice o q c)/\Hid (R=pre l (rep (ru s en) (m-q) jq))/\Hid (RS w0 p s c en k jq n wr)/\Hid (But p w wr)/\Hid (wr.ownsRow w.heap.size 3 1 t q (l.map λz=>Value.int .i64 z))) (λ_ u _=>m-(RowKit.intOf u).toNat)
  case atStart=>exact ⟨0,[],j,by omega,rfl,rfl,⟨none,0,rfl⟩,aa (by rw [HR.out,pre_nil];rfl),H1,H2,aa (World.ownsRow_nil _ _ _ _)⟩
  case round =>
   obtain ⟨q,l,jq,hq,rfl,hl,⟨oT,cT,rfl⟩,HP,HS,HB,HO⟩:=hrel;by_cases hgo:q<m
   ·have hU:=jU w0 p s c en k jq n wr HS.out;obtain ⟨r,hr⟩:∃r,m-q=r+1:=⟨m-q-1,by omega⟩;cases hu:ru s en jq with
    | error z =>
     rw [hu] at hU;have HU:=aa hU;have HZ:Hid (R=.error z):=aa (by rw [HP.out,hr];exact vM l _ r jq z hu);clear hU hu HP HO;go_wp2_with fail;refine HU.out.mono ?_;rintro e w2 ⟨rfl,hb⟩;exact ⟨rfl,by rw [HZ.out];exact ⟨rfl,hb⟩⟩
    | ok v =>
     obtain ⟨y,j2⟩:=v;rw [hu] at hU;have HU:=aa hU;have HZ:Hid (R=pre (l++[y]) (rep (ru s en) (m-(q+1)) j2)):=aa (by rw [HP.out,hr,pre_on l _ r jq y j2 hu,show m-(q+1)=r by omega]);clear hU hu HP;go_wp2_with fail;refine HU.out.mono ?_;rintro e w2 ⟨⟨v,rfl,hv⟩,h1,h2⟩;have hv:v=.int .i64 y:=hv;subst hv;have bC:=aa ((qV HO.out hpw h2).alloc (.cells #[.int .i64 y] 3));have HN:=aa (Gx w2 (.int .i64 y) 3);have HB2:=aa ((HB.out.trans h2).trans (But.of p (aQ w2 (.cells #[.int .i64 y] 3))));have aM:=aa (h1.on (aQ w2 (.cells #[.int .i64 y] 3)));have iA:Hid (w.heap.size<=w2.heap.size):=aa (eU HB.out.size h2.size);clear h1 h2 HU HO HS HB;obtain ⟨i0,hi,hz0,hz1,hz2⟩:=info_parts Gh;go_wp2_with (first|(at_builtin;refine tO rfl _ _ 28 rfl w.heap.size 3 i0 _ 1 8 underlying28 hi hz0 hz1 hz2 rfl (by decide) _ _ _ rfl bC.out (some ⟨w2.heap.size,0,none⟩) 1 1 [.int .i64 y] rfl ?c6 ?c0 ?c1 ?c2 ?c3 ?c4 ?c5 ?_))
     case c6=>intro h;cases h
     case c0=>rfl
     case c1=>exact λad h=>by injection h with h;subst h;exact HN.out
     case c2=>exact λu hu=>by rw [List.mem_singleton.1 hu];rfl
     case c3=>unfold maxLen;omega
     case c4=>omega
     case c5=>have:=iA.out;simp;omega
     intro v9 w9 dO cE _;have dP:∀q',(Value.slice oT q cT).ownBlock=some q'->w.heap.size<=q':=λq' hq'=>(bC.out.lt q' hq').1;have jZ:=aa (aM.out.grown cE (λq' hq'=>jg hpw (dP q' hq')));have jw:=aa (But.grown (p:=p) HB2.out cE dP);have kQ:Hid (w9.ownsRow w.heap.size 3 1 v9 (q+1) ((l++[y]).map λz=>Value.int .i64 z)):=aa (by rw [qw];exact dO);have hsl:=rU dO;clear dO cE dP bC HN HB2 aM;obtain ⟨oN,cN,rfl⟩:=hsl;go_wp2;go_roundw
     case rel=>exact ⟨q+1,l++[y],j2,by omega,by go_num,by simp [hl],⟨_,_,rfl⟩,HZ,jZ,jw,kQ⟩
     case measure=>simp [RowKit.intOf];omega
   obtain rfl:q=m:=by omega
   have HZ:Hid (R=.ok (l,jq)):=aa (by rw [HP.out,Nat.sub_self];exact vN l _ jq);have HV:Hid (zr w.heap.size l (.slice oT q cT) wr):=aa (JL (l:=l) (by rw [hl];exact HO.out) (by omega));clear HP HO;go_wp2;go_ret;rw [HZ.out];exact ⟨⟨_,rfl,HV.out⟩,HS.out,HB.out⟩
end Go.Proofs.YtcfifbgemfladaaGreatDoor
namespace Go.Proofs
open Go.RowKit Go.Shelf Go.Lib Go.Proofs.Tryz
shelf_lay LaysM.n316 Nm 316 at Tryz as Tryz.adm
namespace YtcfifbgemfladaaGreatDoor
open Go.RowKit au aI
set_option linter.unusedVariables false
namespace aI
def vY (s:AH) (en i:Nat):R AH:=bd (ru s en i) λn j=>if n<=(en:Int)-j then .ok (s.extract j (j+n.toNat),j+n.toNat) else .error 50
def PG (a:AH) (v:Value) (_:AG):Prop:=v=.string a
def tG (p i en n:Nat):Nat->Value
 | 0=>.int .i64 n
 | 1=>.pointer (some ⟨p,0,none⟩)
 | 2=>.pointer (some ⟨p,0,none⟩)
 | 3=>.pointer (some ⟨p,2,none⟩)
 | 4=>.int .i64 en
 | 5=>.pointer (some ⟨p,0,none⟩)
 | 6=>.pointer (some ⟨p,0,none⟩)
 | 7=>.pointer (some ⟨p,1,none⟩)
 | 8=>.int .i64 i
 | 9=>.int .i64 ((en:Int)-i)
 | _=>.bool false
end aI
theorem adn (t:AH) (w:AG) (ht:t.size<=262144):Calls prog 119 #[.string t] w λe w'=>e=.returned (.string t)/\AS w w':=Any.stringslite_Clone Tryz.adm t w (by omega)
theorem ado (t:AH) (w:AG) (ht:t.size<=262144):Calls prog 108 #[.string t] w λe w'=>e=.returned (.string t)/\AS w w':=by
 have HC:=aa (adn t w ht);go_enter func108,ntmps108;go_wp2_with fail;refine HC.out.mono ?_;rintro e u ⟨rfl,hb⟩;go_wp2;go_ret;exact ⟨rfl,hb⟩
set_option maxRecDepth 100000 in
set_option maxHeartbeats 4000000 in
theorem Kn (w0:AG) (p:Nat) (s:AH) (c:Nat->Value) (en k i n:Nat) (w:AG) (h:RS w0 p s c en k i n w) :
  Calls prog 93 #[.pointer (some ⟨p,0,none⟩)] w (cz w0 p s c en k n PG w (vY s en i)):=by
 have HC:=aa (jU w0 p s c en k i n w h);have hlen:=h.len;have hbig:=h.big;clear h;unfold vY;cases hx:ru s en i with
 | error z =>
  rw [hx] at HC;rw [bW];clear hx;go_enter func93,ntmps93;go_wp2_with fail;refine HC.out.mono ?_;rintro e w1 ⟨rfl,hb⟩;exact ⟨rfl,rfl,hb⟩
 | ok v =>
  obtain ⟨x,j⟩:=v;have Lu:=tu hlen hx;rw [hx] at HC;rw [aK];clear hx;obtain ⟨m,rfl⟩:∃m:Nat,x=(m:Int):=⟨x.toNat,by omega⟩;rw [show ((m:Int).toNat)=m by omega];by_cases hm:(m:Int)<=(en:Int)-j
  ·rw [AE hm];have q1:decide ((m:Int)<=(en:Int)-(j:Int))=true:=ay hm;have a1:((j:Int)+(m:Int)).toNat=j+m:=by omega
   have hT:(s.extract j (j+m)).size<=262144:=by rw [ByteArray.size_extract];omega
   have HT:=λu=>aa (ado (s.extract j (j+m)) u hT);have b1:j+m<=s.size:=by omega
   have b2:j+m<=en:=by omega
   have hjn:((j:Int)).toNat=j:=by omega
   clear Lu hT hm;go_enter func93,ntmps93;go_wp2_with fail;refine HC.out.mono ?_;rintro e w1 ⟨⟨v,rfl,hv⟩,h1,h2⟩;have hv:v=.int .i64 m:=hv;subst hv;have H1:=aa h1;have H2:=aa h2;have c0:=h1.cell 0 _ rfl;have c1:=h1.cell 1 _ rfl;have c2:=h1.cell 2 _ rfl;have f1:=h1.ax 1;clear h1 h2 HC;go_wp2_with fail;go_quiet (first|(go_at_call 21;exact Calls.quiet_of_same (dA _ _)))
   obtain ⟨t1,ht1⟩:∃t1,t1=(w1.drewN nq).setCell ⟨p,1,none⟩ (.int .i64 ((j:Int)+m)):=⟨_,rfl⟩;have HR:Hid (RS w0 p s c en k (j+m) n t1):=aa (by rw [ht1];have:=(H1.out.on (mE w1 nq)).at_ (j:=j+m) b2;rw [show ((j+m:Nat):Int)=(j:Int)+m by omega] at this;exact this);have HB:Hid (But p w t1):=aa (by rw [ht1];exact (H2.out.trans (But.of p (mE w1 nq))).trans (But.set p 1 _ _));have HE:=aa ht1;clear ht1;go_upto_region 5 with fail;rw [<- HE.out];clear HE c0 c1 c2 f1 H1 H2;have c0:=HR.out.cell 0 _ rfl;have c1:=HR.out.cell 1 _ rfl;rw [show ((j+m:Nat):Int)=(j:Int)+m by omega] at c1;go_region_with (first|(go_at_call 108;refine (HT _).out.mono ?_;rintro e u ⟨rfl,hb⟩))
   all_goals (
    have HF:=aa (⟨(HR.out.on (wX t1)).on hb,(HB.out.trans (But.of p (wX t1))).trans (But.of p hb)⟩:_/\_);clear hb HT;go_wp2;go_ret;exact ⟨⟨_,rfl,rfl⟩,HF.out.1,HF.out.2⟩)
  rw [AD hm];have q1:decide ((m:Int)<=(en:Int)-(j:Int))=false:=aj hm;clear Lu hm;go_enter func93,ntmps93;go_wp2_with fail;refine HC.out.mono ?_;rintro e w1 ⟨⟨v,rfl,hv⟩,h1,h2⟩;have hv:v=.int .i64 m:=hv;subst hv;have H1:=aa h1;have c1:=h1.cell 1 _ rfl;have c2:=h1.cell 2 _ rfl;have hle:=h1.le;clear h1 h2 HC;go_wp2_with fail;refine ai.oQ 11 (λi=>7+i) (λq v _=>v=tG p j en m q) (by kernel_rfl) (by kernel_rfl) (λi j h1 h2 h=>by have h':7+i=7+j:=h;omega) (ai.lJ (size:=42) (by kernel_rfl)) (λi v w w' _ h _=>h) ?hstep ?cO
  case hstep =>
   intro q o a u hq ho hF hB hd;have f0:a.tmps[0]?.getD undef=.pointer (some ⟨p,0,none⟩):=ai.aB (hF.eval 0 (λi hi=>by show 7+i≠0;omega));have f3:a.tmps[3]?.getD undef=.int .i64 m:=ai.aB (hF.eval 3 (λi hi=>by show 7+i≠3;omega));have d1:=ak hB c1;have d2:=ak hB c2;have hcase:q=0\/q=1\/q=2\/q=3\/q=4\/q=5\/q=6\/q=7\/q=8\/q=9\/q=10:=by omega
   clear hq c1 c2;rcases hcase with rfl|rfl|rfl|rfl|rfl|rfl|rfl|rfl|rfl|rfl|rfl
   all_goals (simp only [gz,gU,gV,gN] at ho;subst ho;refine ai.aO λK hK=>?_)
   ·go_simp;exact hK _ _ ⟨_,rfl,AC _ _,rfl⟩
   ·go_simp;exact hK _ _ ⟨_,rfl,AC _ _,rfl⟩
   ·have q:a.tmps[8]?.getD undef=.pointer (some ⟨p,0,none⟩):=ai.aB (hd 1 (by decide));go_simp;exact hK _ _ ⟨_,rfl,AC _ _,rfl⟩
   ·have q:a.tmps[9]?.getD undef=.pointer (some ⟨p,0,none⟩):=ai.aB (hd 2 (by decide));go_simp;exact hK _ _ ⟨_,rfl,AC _ _,rfl⟩
   ·have q:a.tmps[10]?.getD undef=.pointer (some ⟨p,2,none⟩):=ai.aB (hd 3 (by decide));go_simp;exact hK _ _ ⟨_,rfl,AC _ _,rfl⟩
   ·go_simp;exact hK _ _ ⟨_,rfl,AC _ _,rfl⟩
   ·have q:a.tmps[12]?.getD undef=.pointer (some ⟨p,0,none⟩):=ai.aB (hd 5 (by decide));go_simp;exact hK _ _ ⟨_,rfl,AC _ _,rfl⟩
   ·have q:a.tmps[13]?.getD undef=.pointer (some ⟨p,0,none⟩):=ai.aB (hd 6 (by decide));go_simp;exact hK _ _ ⟨_,rfl,AC _ _,rfl⟩
   ·have q:a.tmps[14]?.getD undef=.pointer (some ⟨p,1,none⟩):=ai.aB (hd 7 (by decide));go_simp;exact hK _ _ ⟨_,rfl,AC _ _,rfl⟩
   ·have q:a.tmps[11]?.getD undef=.int .i64 en:=ai.aB (hd 4 (by decide));have q2:a.tmps[15]?.getD undef=.int .i64 j:=ai.aB (hd 8 (by decide));have q3:IntKind.i64.wrap ((en:Int)-(j:Int))=(en:Int)-j:=by first|omega|(rw [IntKind.wrap_i64];first|omega|(unfold wrap64;omega))
    have q4:wrap64 ((en:Int)-(j:Int))=(en:Int)-j:=by first|omega|(unfold wrap64;omega)
    go_simp;exact hK _ _ ⟨_,rfl,AC _ _,by first|rfl|(rw [q3];rfl)|(rw [q4];rfl)⟩
   have q:a.tmps[7]?.getD undef=.int .i64 m:=ai.aB (hd 0 (by decide));have q2:a.tmps[16]?.getD undef=.int .i64 ((en:Int)-j):=ai.aB (hd 9 (by decide));go_simp;exact hK _ _ ⟨_,rfl,AC _ _,rfl⟩
  case cO =>
   intro a u hF hB hG;have q:a.tmps[17]?.getD undef=.bool false:=ai.aB (hG 10 (by decide));simp only [iw,gP];refine wpList_plain rfl λK hK=>?_;go_simp;refine (iX _ _).mono ?_;rintro e u2 ⟨rfl,rfl⟩;exact ⟨hF.defers,rfl,H1.out.below.trans (hB.mono H1.out.below.size)⟩
end YtcfifbgemfladaaGreatDoor
end Go.Proofs
namespace Go.Proofs.YtcfifbgemfladaaGreatDoor
open Go.RowKit au aI Go.Proofs.Tryz
set_option linter.unusedVariables false
set_option maxRecDepth 100000
set_option maxHeartbeats 4000000
namespace aI
def zA (s:AH) (en i:Nat):R Bool:=bd (nx s en i) λb j=>if b<=1 then .ok (b==1,j) else .error 50
def xn (s:AH) (en i:Nat):R AH:=bd (vY s en i) λt j=>if nm t then .ok (t,j) else .error 50
def yj (s:AH) (en i:Nat):R Unit:=bd (vY s en i) λt j=>if Lib.validD t.data.toList then .ok ((),en) else .error 50
def aaf (a:Bool) (v:Value) (_:AG):Prop:=v=.bool a
theorem Pz {s:AH} {en i:Nat} {x:AH} {j:Nat} (he:en<=s.size) (h:vY s en i=.ok (x,j)):i<j/\j<=en/\x.size<=s.size:=by
 obtain ⟨b,m,h1,h2⟩:=pF h;have h3:=tu he h1;split at h2
 ·injection h2 with h2;injection h2 with h2 h4;subst h2;rw [ByteArray.size_extract];omega
 cases h2
end aI
section
variable (w0:AG) (p:Nat) (s:AH) (c:Nat->Value) (en k i n:Nat) (w:AG) (h:RS w0 p s c en k i n w)
include h
theorem Kl:Calls prog 97 #[.pointer (some ⟨p,0,none⟩)] w (cz w0 p s c en k n BQ w (rt s en i)):=by
 have HC:=aa (xO w0 p s c en k i n w h);have hlen:=h.len;have hbig:=h.big;clear h;unfold rt;cases hx:nx s en i with
 | error z =>
  rw [hx] at HC;rw [bW];clear hx;go_enter func97,ntmps97;go_wp2_with fail;refine HC.out.mono ?_;rintro e w1 ⟨rfl,hb⟩;exact ⟨rfl,rfl,hb⟩
 | ok v =>
  obtain ⟨x,j⟩:=v;rw [hx] at HC;rw [aK,PD];clear hx;have HV:=λu=>aa (PE w0 x u);unfold GV at HV;cases hv0:pg x 0 with
  | error z =>
   rw [bW];rw [hv0] at HV;clear hv0;go_enter func97,ntmps97;go_wp2_with fail;refine HC.out.mono ?_;rintro e w1 ⟨⟨v,rfl,hv⟩,h1,h2⟩;have hv:v=.int .i64 x:=hv;subst hv;have HF:=aa h1.below;clear h1 h2 HC;go_wp2_with fail;refine (HV _).out.mono ?_;rintro e w2 ⟨rfl,rfl⟩;exact ⟨rfl,rfl,HF.out⟩
  | ok v =>
   obtain ⟨a,i0⟩:=v;rw [aK];rw [hv0] at HV;clear hv0;go_enter func97,ntmps97;go_wp2_with fail;refine HC.out.mono ?_;rintro e w1 ⟨⟨v,rfl,hv⟩,h1,h2⟩;have hv:v=.int .i64 x:=hv;subst hv;have HF:=aa (⟨h1,h2⟩:_/\_);clear h1 h2 HC;go_wp2_with fail;refine (HV _).out.mono ?_;rintro e w2 ⟨rfl,rfl⟩;go_wp2;go_ret;exact ⟨⟨_,rfl,rfl⟩,HF.out.1,HF.out.2⟩
theorem PF:Calls prog 99 #[.pointer (some ⟨p,0,none⟩)] w (cz w0 p s c en k n aaf w (zA s en i)):=by
 have HC:=aa (xO w0 p s c en k i n w h);have hlen:=h.len;have hbig:=h.big;clear h;unfold zA;cases hx:nx s en i with
 | error z =>
  rw [hx] at HC;rw [bW];clear hx;go_enter func99,ntmps99;go_wp2_with fail;refine HC.out.mono ?_;rintro e w1 ⟨rfl,hb⟩;exact ⟨rfl,rfl,hb⟩
 | ok v =>
  obtain ⟨x,j⟩:=v;rw [hx] at HC;rw [aK];clear hx;by_cases si:x<=1
  ·rw [AE si];have hd:decide (x<=(1:Int))=true:=ay si;go_enter func99,ntmps99;go_wp2_with fail;refine HC.out.mono ?_;rintro e w1 ⟨⟨v,rfl,hv⟩,h1,h2⟩;have hv:v=.int .i64 x:=hv;subst hv;have HF:=aa (⟨h1,h2⟩:_/\_);clear h1 h2 HC;go_wp2_with fail;refine (dA _ _).mono ?_;rintro e w2 ⟨rfl,rfl⟩;go_wp2;go_ret;exact ⟨⟨_,rfl,rfl⟩,HF.out.1,HF.out.2⟩
  rw [AD si];have hd:decide (x<=(1:Int))=false:=aj si;go_enter func99,ntmps99;go_wp2_with fail;refine HC.out.mono ?_;rintro e w1 ⟨⟨v,rfl,hv⟩,h1,h2⟩;have hv:v=.int .i64 x:=hv;subst hv;have HF:=aa h1.below;clear h1 h2 HC;go_wp2_with fail;refine (iX _ _).mono ?_;rintro e w2 ⟨rfl,rfl⟩;exact ⟨rfl,rfl,HF.out⟩
theorem Km (hU:∀u,AS w0 u->mI u):Calls prog 98 #[.pointer (some ⟨p,0,none⟩)] w (cz w0 p s c en k n PG w (xn s en i)):=by
 have HC:=aa (Kn w0 p s c en k i n w h);have hlen:=h.len;have hbig:=h.big;clear h;unfold xn;cases hx:vY s en i with
 | error z =>
  rw [hx] at HC;rw [bW];clear hx;go_enter func98,ntmps98;go_wp2_with fail;refine HC.out.mono ?_;rintro e w1 ⟨rfl,hb⟩;exact ⟨rfl,rfl,hb⟩
 | ok v =>
  obtain ⟨x,j⟩:=v;have hxs:=Pz hlen hx;rw [hx] at HC;rw [aK];clear hx;have HN:∀u,AS w0 u->Hid (Calls prog 110 #[.string x] u λe w'=>e=.returned (.bool (nm x))/\AS u w'):=λu hb=>aa (Zw x u (by omega) (hU u hb));generalize nm x=y at HN ⊢;clear hU hxs hlen hbig;cases y with
  | true =>
   rw [AE rfl];go_enter func98,ntmps98;go_wp2_with fail;refine HC.out.mono ?_;rintro e w1 ⟨⟨v,rfl,hv⟩,h1,h2⟩;have hv:v=.string x:=hv;subst hv;have HM:=HN _ h1.below;have HF:=aa (⟨h1,h2⟩:_/\_);clear h1 h2 HC HN;go_wp2_with fail;refine HM.out.mono ?_;rintro e w2 ⟨rfl,hb⟩;have HG:=aa (⟨HF.out.1.on hb,HF.out.2.trans (But.of p hb)⟩:_/\_);clear hb HM HF;go_wp2_with fail;refine (dA _ _).mono ?_;rintro e w3 ⟨rfl,rfl⟩;go_wp2;go_ret;exact ⟨⟨_,rfl,rfl⟩,HG.out.1,HG.out.2⟩
  | false =>
   rw [AD (by simp)];go_enter func98,ntmps98;go_wp2_with fail;refine HC.out.mono ?_;rintro e w1 ⟨⟨v,rfl,hv⟩,h1,h2⟩;have hv:v=.string x:=hv;subst hv;have HM:=HN _ h1.below;have HF:=aa h1.below;clear h2 HC HN;have HS:=aa h1.below.size;clear h1;go_wp2_with fail;refine HM.out.mono ?_;rintro e w2 ⟨rfl,hb⟩;have HG:=aa (HF.out.trans (hb.mono HS.out));clear hb HM HF HS;go_wp2_with fail;refine (iX _ _).mono ?_;rintro e w3 ⟨rfl,rfl⟩;exact ⟨rfl,rfl,HG.out⟩
theorem aag (hU:∀u,AS w0 u->mI u):Calls prog 70 #[.pointer (some ⟨p,0,none⟩)] w (cz w0 p s c en k n Ko w (yj s en i)):=by
 have HC:=aa (Kn w0 p s c en k i n w h);have hlen:=h.len;have hbig:=h.big;clear h;unfold yj;cases hx:vY s en i with
 | error z =>
  rw [hx] at HC;rw [bW];clear hx;go_enter func70,ntmps70;go_wp2_with fail;refine HC.out.mono ?_;rintro e w1 ⟨rfl,hb⟩;exact ⟨rfl,rfl,hb⟩
 | ok v =>
  obtain ⟨x,j⟩:=v;have hxs:=Pz hlen hx;rw [hx] at HC;rw [aK];clear hx;have HN:∀u,AS w0 u->Hid (Calls prog 92 #[.string x] u λe w'=>e=.returned (.bool (Lib.validD x.data.toList))/\AS u w'):=λu hb=>aa (Any.utf8_ValidString Tryz.laysValid x u (by omega) (hU u hb));generalize Lib.validD x.data.toList=y at HN ⊢;clear hU hxs hlen hbig;cases y with
  | true =>
   rw [AE rfl];go_enter func70,ntmps70;go_wp2_with fail;refine HC.out.mono ?_;rintro e w1 ⟨⟨v,rfl,hv⟩,h1,h2⟩;have hv:v=.string x:=hv;subst hv;have HM:=HN _ h1.below;have HF:=aa (⟨h1,h2⟩:_/\_);clear h1 h2 HC HN;go_wp2_with fail;refine HM.out.mono ?_;rintro e w2 ⟨rfl,hb⟩;have HG:=aa (⟨HF.out.1.on hb,HF.out.2.trans (But.of p hb)⟩:_/\_);clear hb HM HF;go_wp2_with fail;refine (dA _ _).mono ?_;rintro e w3 ⟨rfl,rfl⟩;have c2:=HG.out.1.cell 2 _ rfl;have c1:=HG.out.1.cell 1 _ rfl;have f1:=HG.out.1.ax 1;have HE:Hid (∀u,AS w3 u->RS w0 p s c en k en n (u.setCell ⟨p,1,none⟩ (.int .i64 en))/\But p w (u.setCell ⟨p,1,none⟩ (.int .i64 en))):=aa (λu hb=>⟨(HG.out.1.on hb).at_ (aC _),(HG.out.2.trans (But.of p hb)).trans (But.set p 1 u _)⟩);clear HG;go_wp2_with fail;go_end0;exact ⟨⟨_,rfl,rfl⟩,(HE.out _ (AC _ _)).1,(HE.out _ (AC _ _)).2⟩
  | false =>
   rw [AD (by simp)];go_enter func70,ntmps70;go_wp2_with fail;refine HC.out.mono ?_;rintro e w1 ⟨⟨v,rfl,hv⟩,h1,h2⟩;have hv:v=.string x:=hv;subst hv;have HM:=HN _ h1.below;have HF:=aa h1.below;clear h2 HC HN;have HS:=aa h1.below.size;clear h1;go_wp2_with fail;refine HM.out.mono ?_;rintro e w2 ⟨rfl,hb⟩;have HG:=aa (HF.out.trans (hb.mono HS.out));clear hb HM HF HS;go_wp2_with fail;refine (iX _ _).mono ?_;rintro e w3 ⟨rfl,rfl⟩;exact ⟨rfl,rfl,HG.out⟩
end
namespace aI
def zH (s:AH) (en at_:Nat):R (List Int):=bd (rc s en at_) λn i=>rep (rt s en) n.toNat i
end aI
theorem RX (w0:AG) (p:Nat) (s:AH) (c:Nat->Value) (en k i n:Nat) (w:AG) (h:RS w0 p s c en k i n w) :
  Calls prog 96 #[.pointer (some ⟨p,0,none⟩),.func (.func 97) #[.pointer (some ⟨p,0,none⟩)] #[]] w (cz w0 p s c en k n (zr w.heap.size) w (zH s en i)):=by
 have HC:=aa (tN w0 p s c en k i n w h);have hpw:=h.lt;have hlen:=h.len;have hle:=h.le;clear h;unfold zH;cases hx:rc s en i with
 | error z =>
  rw [hx] at HC;rw [bW];clear hx;go_enter func96,ntmps96;go_wp2_with fail;refine HC.out.mono ?_;rintro e w1 ⟨rfl,hb⟩;exact ⟨rfl,rfl,hb⟩
 | ok v =>
  obtain ⟨x,j⟩:=v;have hrc:=rW hlen hx;rw [hx] at HC;rw [aK];obtain ⟨m,rfl⟩:∃m:Nat,x=(m:Int):=⟨x.toNat,by omega⟩;have hm:m<=4096:=by omega
  rw [show ((m:Int).toNat)=m by omega];obtain ⟨R,hR⟩:∃R,R=rep (rt s en) m j:=⟨_,rfl⟩;rw [<- hR];have HR:=aa hR;clear hx hrc hR hlen hle;go_enter func96,ntmps96;go_wp2_with fail;refine HC.out.mono ?_;rintro e w1 ⟨⟨v,rfl,hv⟩,h1,h2⟩;have hv:v=.int .i64 m:=hv;subst hv;have H1:=aa h1;have H2:=aa h2;clear h1 h2 HC;go_wp2_with fail;go_loopw [5,8] (λt u wr=>∃(q:Nat) (l:List Int) (jq:Nat),q<=m/\u=.int .i64 q/\l.length=q/\(∃o c,t=.slice o q c)/\Hid (R=pre l (rep (rt s en) (m-q) jq))/\Hid (RS w0 p s c en k jq n wr)/\Hid (But p w wr)/\Hid (wr.ownsRow w.heap.size 3 1 t q (l.map λz=>Value.int .i64 z))) (λ_ u _=>m-(RowKit.intOf u).toNat)
  case atStart=>exact ⟨0,[],j,by omega,rfl,rfl,⟨none,0,rfl⟩,aa (by rw [HR.out,pre_nil];rfl),H1,H2,aa (World.ownsRow_nil _ _ _ _)⟩
  case round =>
   obtain ⟨q,l,jq,hq,rfl,hl,⟨oT,cT,rfl⟩,HP,HS,HB,HO⟩:=hrel;by_cases hgo:q<m
   ·have hU:=Kl w0 p s c en k jq n wr HS.out;obtain ⟨r,hr⟩:∃r,m-q=r+1:=⟨m-q-1,by omega⟩;cases hu:rt s en jq with
    | error z =>
     rw [hu] at hU;have HU:=aa hU;have HZ:Hid (R=.error z):=aa (by rw [HP.out,hr];exact vM l _ r jq z hu);clear hU hu HP HO;go_wp2_with fail;refine HU.out.mono ?_;rintro e w2 ⟨rfl,hb⟩;exact ⟨rfl,by rw [HZ.out];exact ⟨rfl,hb⟩⟩
    | ok v =>
     obtain ⟨y,j2⟩:=v;rw [hu] at hU;have HU:=aa hU;have HZ:Hid (R=pre (l++[y]) (rep (rt s en) (m-(q+1)) j2)):=aa (by rw [HP.out,hr,pre_on l _ r jq y j2 hu,show m-(q+1)=r by omega]);clear hU hu HP;go_wp2_with fail;refine HU.out.mono ?_;rintro e w2 ⟨⟨v,rfl,hv⟩,h1,h2⟩;have hv:v=.int .i64 y:=hv;subst hv;have bC:=aa ((qV HO.out hpw h2).alloc (.cells #[.int .i64 y] 3));have HN:=aa (Gx w2 (.int .i64 y) 3);have HB2:=aa ((HB.out.trans h2).trans (But.of p (aQ w2 (.cells #[.int .i64 y] 3))));have aM:=aa (h1.on (aQ w2 (.cells #[.int .i64 y] 3)));have iA:Hid (w.heap.size<=w2.heap.size):=aa (eU HB.out.size h2.size);clear h1 h2 HU HO HS HB;obtain ⟨i0,hi,hz0,hz1,hz2⟩:=info_parts Gh;go_wp2_with (first|(at_builtin;refine tO rfl _ _ 28 rfl w.heap.size 3 i0 _ 1 8 underlying28 hi hz0 hz1 hz2 rfl (by decide) _ _ _ rfl bC.out (some ⟨w2.heap.size,0,none⟩) 1 1 [.int .i64 y] rfl ?c6 ?c0 ?c1 ?c2 ?c3 ?c4 ?c5 ?_))
     case c6=>intro h;cases h
     case c0=>rfl
     case c1=>exact λad h=>by injection h with h;subst h;exact HN.out
     case c2=>exact λu hu=>by rw [List.mem_singleton.1 hu];rfl
     case c3=>unfold maxLen;omega
     case c4=>omega
     case c5=>have:=iA.out;simp;omega
     intro v9 w9 dO cE _;have dP:∀q',(Value.slice oT q cT).ownBlock=some q'->w.heap.size<=q':=λq' hq'=>(bC.out.lt q' hq').1;have jZ:=aa (aM.out.grown cE (λq' hq'=>jg hpw (dP q' hq')));have jw:=aa (But.grown (p:=p) HB2.out cE dP);have kQ:Hid (w9.ownsRow w.heap.size 3 1 v9 (q+1) ((l++[y]).map λz=>Value.int .i64 z)):=aa (by rw [qw];exact dO);have hsl:=rU dO;clear dO cE dP bC HN HB2 aM;obtain ⟨oN,cN,rfl⟩:=hsl;go_wp2;go_roundw
     case rel=>exact ⟨q+1,l++[y],j2,by omega,by go_num,by simp [hl],⟨_,_,rfl⟩,HZ,jZ,jw,kQ⟩
     case measure=>simp [RowKit.intOf];omega
   obtain rfl:q=m:=by omega
   have HZ:Hid (R=.ok (l,jq)):=aa (by rw [HP.out,Nat.sub_self];exact vN l _ jq);have HV:Hid (zr w.heap.size l (.slice oT q cT) wr):=aa (JL (l:=l) (by rw [hl];exact HO.out) (by omega));clear HP HO;go_wp2;go_ret;rw [HZ.out];exact ⟨⟨_,rfl,HV.out⟩,HS.out,HB.out⟩
end Go.Proofs.YtcfifbgemfladaaGreatDoor
