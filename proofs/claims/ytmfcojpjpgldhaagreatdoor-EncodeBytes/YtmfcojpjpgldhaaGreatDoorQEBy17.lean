/- Texts that the claim needs. -/
import Derived.Test.YtmfcojpjpgldhaaGreatDoorQEBy16
namespace Go.Proofs.YtmfcojpjpgldhaaGreatDoor
open Go.RowKit aA Enc Go.Lib Go.Proofs.Tryz
set_option linter.unusedVariables false
set_option maxRecDepth 100000
set_option maxHeartbeats 2000000
namespace Enc
theorem Zr (s:ByteArray):∀x ∈ nums s,0<=x/\x<=255:=by
 intro x hx;unfold nums at hx;obtain ⟨b,_,rfl⟩:=List.mem_map.1 hx
 have:=b.toNat_lt
 omega
structure PS (w0:World) (p:Nat) (ov:Bool) (v:Value) (bs:List Int) (w:World):Prop where
 below:Below w0.heap.size w0 w
 base:w0.heap.size<=p
 blk:w.heap[p]?=some (.cells #[v,.bool ov] 72 (0,0))
 own:w.ownsRow w0.heap.size 5 1 v bs.length (cells bs)
 apart:v.ownBlock≠some p
 few:bs.length<=524288
 bd:∀x ∈ bs,0<=x/\x<=255
def St (id:List Int) (ov:Bool) (bs:List Int):Prop:=(ov=false/\bs=id)\/(ov=true/\524288<id.length)
theorem St.more {id:List Int} {ov:Bool} {bs:List Int} (h:St id ov bs) (ho:ov=true) (add:List Int):St (id++add) ov bs:=by
 rcases h with ⟨h,_⟩|⟨_,h⟩
 ·rw [h] at ho;cases ho
 exact .inr ⟨ho,by rw [aB];omega⟩
section
variable {w0 w w':World} {p:Nat} {ov:Bool} {v:Value} {bs:List Int}
theorem PS.cell (h:PS w0 p ov v bs w):w.cell? ⟨p,0,none⟩=some v:=by unfold World.cell?;rw [h.blk];rfl
theorem PS.tK (h:PS w0 p ov v bs w):w.cell? ⟨p,1,none⟩=some (.bool ov):=by unfold World.cell?;rw [h.blk];rfl
theorem PS.fM (h:PS w0 p ov v bs w) (i:Nat):w.frozen? ⟨p,i,none⟩=false:=by unfold World.frozen?;rw [h.blk];simp
theorem PS.lt (h:PS w0 p ov v bs w):p<w.heap.size:=(kD.1 h.blk).1
theorem PS.slice (h:PS w0 p ov v bs w):∃o k,v=.slice o bs.length k:=by
 rcases h.own.2 with ⟨rfl,h0⟩|⟨g,cap,cur,rfl,_⟩
 ·rw [h0];exact ⟨none,0,rfl⟩
 exact ⟨_,_,rfl⟩
theorem PS.on (h:PS w0 p ov v bs w) (hb:Below w.heap.size w w'):PS w0 p ov v bs w' :=
 ⟨h.below.trans (hb.mono h.below.size),h.base,by rw [hb.block p h.lt];exact h.blk,DY h.own hb,h.apart,h.few,h.bd⟩
theorem PS.mark (h:PS w0 p ov v bs w) (o:Bool):PS w0 p o v bs (w.setCell ⟨p,1,none⟩ (.bool o)) :=
 ⟨h.below.setCell h.base _,h.base,heap_setCell_same w p 1 _ _ _ h.blk,⟨h.own.1,h.own.2.imp id λ⟨g,cap,cur,k1,k2,k3,k4⟩=>⟨g,cap,cur,k1,k2,by
  rw [Below.heap_setCell _ _ _ _ (by show g≠p;intro e;subst e;exact h.apart (by rw [k1];rfl))];exact k3,k4⟩⟩,h.apart,h.few,h.bd⟩
theorem Kept.mark {p i:Nat} {v:Value} {w:World} (u:Value):Kept p v w v (w.setCell ⟨p,i,none⟩ u) :=
 ⟨by simp,λk hk hp _=>by rw [Below.heap_setCell _ _ _ _ (by show k≠p;exact hp)],λk h=>.inl h⟩
theorem PS.store {w9:World} {v':Value} {bs':List Int} (h:PS w0 p ov v bs w) (ho:w9.ownsRow w0.heap.size 5 1 v' bs'.length (cells bs')) (hg:w.grownBy w9 v.ownBlock) (hf:bs'.length<=524288) (hd:∀x ∈ bs',0<=x/\x<=255):PS w0 p ov v' bs' (w9.setCell ⟨p,0,none⟩ v'):=by
 have nI:w9.heap[p]?=some (.cells #[v,.bool ov] 72 (0,0)):=by rw [hg.block p h.lt (λe=>h.apart e.symm)];exact h.blk
 have hap:v'.ownBlock≠some p:=by
  rcases ho.2 with ⟨rfl,_⟩|⟨g,cap,cur,rfl,_,hgg,_⟩
  ·simp [Value.ownBlock]
  intro e
  have:g=p:=by simpa [Value.ownBlock] using e
  subst this;rw [hgg] at nI;injection nI with nI;injection nI with _ nI;exact absurd nI (by decide)
 refine ⟨(h.below.grown hg h.below.size λk hk=>(h.own.lt k hk).1).setCell h.base _,h.base,heap_setCell_same w9 p 0 _ _ v' nI,?_,hap,hf,hd⟩;refine ⟨ho.1,ho.2.imp id λ⟨g,cap,cur,k1,k2,k3,k4⟩=>⟨g,cap,cur,k1,k2,?_,k4⟩⟩;rw [Below.heap_setCell _ _ _ _ (by show g≠p;intro e;subst e;exact hap (by rw [k1];rfl))];exact k3
end
theorem PS.new (w:World):PS w w.heap.size false (.slice none 0 0) [] (w.alloc (.cells #[.slice none 0 0,.bool false] 72)) :=
 ⟨aU w _,aI _,tF w _,World.ownsRow_nil _ _ _ _,by simp [Value.ownBlock],by simp,by simp⟩
def gH (w0:World) (p:Nat) (v:Value) (w:World) (id:List Int) (e:Ending) (w':World):Prop:=∃uF v' bs',e=.returned (.tuple #[])/\PS w0 p uF v' bs' w'/\St id uF bs'/\Kept p v w v' w'
end Enc
theorem Bd (w0:World) (p:Nat) (ov:Bool) (v:Value) (bs id:List Int) (s:ByteArray) (w:World) (h:PS w0 p ov v bs w) (hS:St id ov bs) (hs:s.size<=100000000) :
  Calls prog 17 #[.pointer (some ⟨p,0,none⟩),.string s] w (gH w0 p v w (id++nums s)):=by
 obtain ⟨o,k,rfl⟩:=h.slice;have LU:=h.few;have kc:=h.cell;have Nr:=h.fM 0;have Ic:=h.fM 1;have ko:=h.tK;have HS:=aa h;have HST:=aa hS;obtain ⟨i0,hi,hz0,hz1,hz2⟩:=info_parts yf;clear h hS;generalize hn:s.size=n at *;by_cases hbig:524288<bs.length+n
 ·have hd:decide ((524288:Int)<(bs.length:Int)+(n:Int))=true:=by simp;omega
  have HF:Hid (PS w0 p true (.slice o bs.length k) bs (w.setCell ⟨p,1,none⟩ (.bool true))/\St (id++nums s) true bs):=aa ⟨HS.out.mark true,.inr ⟨rfl,by
   have hl:=yj s;rw [aB];rcases HST.out with ⟨_,h⟩|⟨_,h⟩
   ·rw [<- h];omega
   omega⟩⟩
  generalize hbl:bs.length=bl at *;clear hbig;go_enter func17,ntmps17;go_wp2;go_end0;exact ⟨_,_,_,rfl,by simpa [hbl] using HF.out.1,HF.out.2,Kept.mark _⟩
 have hd:decide ((524288:Int)<(bs.length:Int)+(n:Int))=false:=by simp;omega
 have Ns:St (id++nums s) ov (bs++nums s):=by
  rcases HST.out with ⟨h1,h⟩|⟨h1,h⟩
  ·exact .inl ⟨h1,by rw [h]⟩
  exact .inr ⟨h1,by rw [aB];omega⟩
 have kC:=aa Ns;clear Ns;have hl2:(bs++nums s).length=bs.length+n:=by rw [aB,yj,hn]
 have Zt:=aa hl2;clear hl2;have Nt:bs.length+n<=524288:=by omega
 have qJ:=aa Nt;clear hbig Nt;generalize hbl:bs.length=bl at *;go_enter func17,ntmps17;go_wp2_with (first|(at_builtin;refine Mf rfl _ _ 59 9 rfl w0.heap.size 5 i0 underlying59 underlying9 hi hz0 hz1 hz2 _ _ _ rfl HS.out.own s rfl ?c3 ?c4 ?c5 ?_))
 case c3=>unfold maxLen;have:=qJ.out;omega
 case c4=>have:=qJ.out;omega
 case c5=>exact HS.out.below.size
 intro v' w9 hown hg hv
 have hown':w9.ownsRow w0.heap.size 5 1 v' (bs++nums s).length (cells (bs++nums s)):=by
  have:cells (bs++nums s)=cells bs++strCells s:=by rw [F7];unfold cells;rw [zA]
  rw [this,aB,yj,hbl,hn];exact hown
 have HE:=aa (HS.out.store hown' hg (by rw [Zt.out];exact qJ.out) (λx hx=>(List.mem_append.1 hx).elim (HS.out.bd x) (Zr s x)));have HK:=aa (Kept.store (p:=p) (i:=0) hg hv v');have Cc:w9.cell? ⟨p,0,none⟩=some (.slice o bl k):=by rw [World.cell?_of_block (a:=⟨p,0,none⟩) (hg.block p HS.out.lt (λe=>HS.out.apart e.symm))];exact kc
 have Ce:w9.frozen? ⟨p,0,none⟩=false:=by rw [World.frozen?_of_block (a:=⟨p,0,none⟩) (hg.block p HS.out.lt (λe=>HS.out.apart e.symm))];exact Nr
 obtain ⟨o9,k9,rfl⟩:∃o9 k9,v'=.slice o9 (bs++nums s).length k9:=by
  rcases hown'.2 with ⟨rfl,h0⟩|⟨g,cap,cur,rfl,_⟩
  ·rw [h0];exact ⟨none,0,rfl⟩
  exact ⟨_,_,rfl⟩
 clear hown hown' hg hv kc ko Nr Ic HS;generalize (bs++nums s).length=n9 at *;go_wp2;go_end0;exact ⟨_,_,_,rfl,HE.out,kC.out,by simpa [hbl] using HK.out⟩
namespace Enc
def kv (l:List Int):List Int:=ak.uB (l.length:Int)++l.flatMap ak.uB
def pM (l:List Int):List Int:=ak.uB (l.length:Int)++l.flatMap λx=>[x%256]
theorem MN {f:Int->List Int} {l:List Int} {j:Nat} {x:Int} (hx:l[j]?=some x):(l.take (j+1)).flatMap f=(l.take j).flatMap f++f x:=by
 rw [List.take_add_one,hx,vR];simp
theorem CY {f:Int->List Int} (k:Nat):∀(l:List Int),(∀x ∈ l,(f x).length<=k)->(l.flatMap f).length<=l.length*k
 | [],_=>by simp
 | x :: r,h=>by
  rw [List.flatMap_cons,aB,bI,Nat.add_mul];have h1:=h x (List.mem_cons_self ..);have h2:=CY k r λy hy=>h y (List.mem_cons_of_mem _ hy);omega
theorem CZ {f:Int->List Int} (k:Nat) (l:List Int) (j:Nat) (h:∀x ∈ l,(f x).length<=k):((l.take j).flatMap f).length<=l.length*k :=
 tL (CY k _ λx hx=>h x (List.mem_of_mem_take hx)) (Nat.mul_le_mul_right _ (by rw [jY];omega))
end Enc
theorem LJ (w0:World) (p:Nat) (c:Nat->Value) (v:Value) (bs:List Int) (lv:Value) (l:List Int) (w:World) (h:WS w0 p c v bs w) (hL:Ints w0 lv l) (hr:∀x ∈ l,0<=x/\x<=4294967295) (hl:l.length<=10000000) (hn:bs.length<=50000000000000):Calls prog 81 #[.pointer (some ⟨p,0,none⟩),lv] w (Does w0 p c v w (bs++kv l)):=by
 obtain ⟨oL,kL,rfl⟩:=Row.len hL;have HL:=aa hL;have HR:=aa hr;clear hL hr;have H1:=aa (wU w0 p c v bs (l.length:Int) w h (by omega) (by omega) (by omega));have ma:=ak.gT (n:=(l.length:Int)) (by omega) (by omega);clear h;obtain ⟨b2,hb2⟩:∃b2,b2=bs++kv l:=⟨_,rfl⟩;rw [<- hb2];have HB2:=aa hb2;clear hb2
 have Hm:∀j,Hid ((bs++ak.uB (l.length:Int)++(l.take j).flatMap ak.uB).length<=100000000000000):=λj=>aa (by
  have:=CZ (f:=ak.uB) 10 l j (λx hx=>ak.gT (HR.out x hx).1 (by have:=(HR.out x hx).2;omega))
  rw [aB,aB];omega)
 clear ma;unfold kv at HB2;generalize tZ:l.length=n at *;go_enter func81,ntmps81;go_wp2_with fail;refine H1.out.mono ?_;rintro e w1 ⟨v1,rfl,h1,k1⟩;have aO:=aa k1;clear k1;have aV:Hid (WS w0 p c v1 (bs++ak.uB (n:Int)++(l.take 0).flatMap ak.uB) w1):=aa (by simpa using h1);clear h1 H1;go_wp2_with fail;go_loopw [12] (λi wr=>∃(j:Nat) (v2:Value),j<=n/\i=.int .i64 j/\Hid (WS w0 p c v2 (bs++ak.uB (n:Int)++(l.take j).flatMap ak.uB) wr)/\Hid (Kept p v w v2 wr)) (λi _=>n-(RowKit.intOf i).toNat)
 case atStart=>exact ⟨0,v1,by omega,rfl,aV,aO⟩
 case round =>
  clear aV aO;obtain ⟨j,v2,hj,rfl,aM,ba⟩:=hrel;by_cases hgo:j<n
  ·obtain ⟨b1,aJ,gb,hv1,hx1⟩:=Row.some HL.out (by omega);injection hv1 with cJ e11 e12;subst cJ;clear e11 e12;obtain ⟨x,hxk⟩:∃x,l[j]?=some x:=⟨_,aY (by omega)⟩;have cx:=aj aM.out.below (hx1 j x hxk);simp only [Nat.mul_one] at cx;have eU:=aa hxk;have yE:=Hm j;clear hx1 hxk;have HC:=aa (wU w0 p c v2 (bs++ak.uB (n:Int)++(l.take j).flatMap ak.uB) x wr aM.out (HR.out x (dK eU.out)).1 (by have:=(HR.out x (dK eU.out)).2;omega) yE.out);go_wp2_with fail;refine HC.out.mono ?_;rintro e w3 ⟨v3,rfl,h3,k3⟩;have bE:=aa (ba.out.trans k3);clear k3;have HN:Hid (WS w0 p c v3 (bs++ak.uB (n:Int)++(l.take (j+1)).flatMap ak.uB) w3):=aa (by rw [MN eU.out,<- bf];exact h3);clear h3 HC cx aM;go_wp2;go_roundw
   case rel=>exact ⟨j+1,v3,by omega,by go_num,HN,bE⟩
   case measure=>simp [RowKit.intOf];omega
  obtain rfl:n=j:=by omega
  have HE:Hid (WS w0 p c v2 b2 wr):=aa (by have:=aM.out;rw [jZ (by omega)] at this;rw [HB2.out,<- bf];exact this);clear aM;go_wp2;go_end0;exact ⟨_,rfl,HE.out,ba.out⟩
theorem MB (w0:World) (p:Nat) (c:Nat->Value) (v:Value) (bs:List Int) (lv:Value) (l:List Int) (w:World) (h:WS w0 p c v bs w) (hL:Ints w0 lv l)  (hl:l.length<=10000000) (hn:bs.length<=50000000000000):Calls prog 76 #[.pointer (some ⟨p,0,none⟩),lv] w (Does w0 p c v w (bs++pM l)):=by
 obtain ⟨oL,kL,rfl⟩:=Row.len hL;have HL:=aa hL;have HR:=True.intro;clear hL;have H1:=aa (wU w0 p c v bs (l.length:Int) w h (by omega) (by omega) (by omega));have ma:=ak.gT (n:=(l.length:Int)) (by omega) (by omega);clear h;obtain ⟨b2,hb2⟩:∃b2,b2=bs++pM l:=⟨_,rfl⟩;rw [<- hb2];have HB2:=aa hb2;clear hb2
 have Hm:∀j,Hid ((bs++ak.uB (l.length:Int)++(l.take j).flatMap (λx=>[x%256])).length<=100000000000000):=λj=>aa (by
  have:=CZ (f:=(λx=>[x%256])) 1 l j (λx hx=>by simp)
  rw [aB,aB];omega)
 clear ma;unfold pM at HB2;generalize tZ:l.length=n at *;go_enter func76,ntmps76;go_wp2_with fail;refine H1.out.mono ?_;rintro e w1 ⟨v1,rfl,h1,k1⟩;have aO:=aa k1;clear k1;have aV:Hid (WS w0 p c v1 (bs++ak.uB (n:Int)++(l.take 0).flatMap (λx=>[x%256])) w1):=aa (by simpa using h1);clear h1 H1;go_wp2_with fail;go_loopw [12] (λi wr=>∃(j:Nat) (v2:Value),j<=n/\i=.int .i64 j/\Hid (WS w0 p c v2 (bs++ak.uB (n:Int)++(l.take j).flatMap (λx=>[x%256])) wr)/\Hid (Kept p v w v2 wr)) (λi _=>n-(RowKit.intOf i).toNat)
 case atStart=>exact ⟨0,v1,by omega,rfl,aV,aO⟩
 case round =>
  clear aV aO;obtain ⟨j,v2,hj,rfl,aM,ba⟩:=hrel;by_cases hgo:j<n
  ·obtain ⟨b1,aJ,gb,hv1,hx1⟩:=Row.some HL.out (by omega);injection hv1 with cJ e11 e12;subst cJ;clear e11 e12;obtain ⟨x,hxk⟩:∃x,l[j]?=some x:=⟨_,aY (by omega)⟩;have cx:=aj aM.out.below (hx1 j x hxk);simp only [Nat.mul_one] at cx;have eU:=aa hxk;have yE:=Hm j;clear hx1 hxk;have HC:=aa (gZ w0 p c v2 (bs++ak.uB (n:Int)++(l.take j).flatMap λx=>[x%256]) x wr aM.out yE.out);go_wp2_with fail;refine HC.out.mono ?_;rintro e w3 ⟨v3,rfl,h3,k3⟩;have bE:=aa (ba.out.trans k3);clear k3;have HN:Hid (WS w0 p c v3 (bs++ak.uB (n:Int)++(l.take (j+1)).flatMap (λx=>[x%256])) w3):=aa (by rw [MN eU.out,<- bf];exact h3);clear h3 HC cx aM;go_wp2;go_roundw
   case rel=>exact ⟨j+1,v3,by omega,by go_num,HN,bE⟩
   case measure=>simp [RowKit.intOf];omega
  obtain rfl:n=j:=by omega
  have HE:Hid (WS w0 p c v2 b2 wr):=aa (by have:=aM.out;rw [jZ (by omega)] at this;rw [HB2.out,<- bf];exact this);clear aM;go_wp2;go_end0;exact ⟨_,rfl,HE.out,ba.out⟩
end Go.Proofs.YtmfcojpjpgldhaaGreatDoor
