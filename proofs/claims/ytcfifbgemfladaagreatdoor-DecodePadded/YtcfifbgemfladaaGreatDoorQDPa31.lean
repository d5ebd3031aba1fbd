/- Texts that the claim needs. -/
import Derived.Test.YtcfifbgemfladaaGreatDoorQDPa6
import Derived.Test.YtcfifbgemfladaaGreatDoorQDPa7
import Derived.Test.YtcfifbgemfladaaGreatDoorQDPa0
namespace Go.Proofs.YtcfifbgemfladaaGreatDoor
open Go.RowKit au Enc Go.Lib Go.Proofs.Tryz
set_option linter.unusedVariables false
set_option maxRecDepth 100000
set_option maxHeartbeats 1000000
namespace Enc
theorem adf (s:AH):∀x ∈ nums s,0<=x/\x<=255:=by
 intro x hx;unfold nums at hx;obtain ⟨b,_,rfl⟩:=List.mem_map.1 hx
 have:=b.toNat_lt
 omega
structure PS (w0:AG) (p:Nat) (ov:Bool) (v:Value) (bs:List Int) (w:AG):Prop where
 below:AS w0 w
 base:w0.heap.size<=p
 blk:w.heap[p]?=some (.cells #[v,.bool ov] 70 (0,0))
 own:w.ownsRow w0.heap.size 5 1 v bs.length (cells bs)
 apart:v.ownBlock≠some p
 few:bs.length<=524288
 bd:∀x ∈ bs,0<=x/\x<=255
def St (id:List Int) (ov:Bool) (bs:List Int):Prop:=(ov=false/\bs=id)\/(ov=true/\524288<id.length)
theorem St.more {id:List Int} {ov:Bool} {bs:List Int} (h:St id ov bs) (ho:ov=true) (add:List Int):St (id++add) ov bs:=by
 rcases h with ⟨h,_⟩|⟨_,h⟩
 ·rw [h] at ho;cases ho
 exact .inr ⟨ho,by rw [aT];omega⟩
section
variable {w0 w w':AG} {p:Nat} {ov:Bool} {v:Value} {bs:List Int}
theorem PS.cell (h:PS w0 p ov v bs w):w.cell? ⟨p,0,none⟩=some v:=by unfold World.cell?;rw [h.blk];rfl
theorem PS.uo (h:PS w0 p ov v bs w):w.cell? ⟨p,1,none⟩=some (.bool ov):=by unfold World.cell?;rw [h.blk];rfl
theorem PS.ax (h:PS w0 p ov v bs w) (i:Nat):w.frozen? ⟨p,i,none⟩=false:=by unfold World.frozen?;rw [h.blk];simp
theorem PS.lt (h:PS w0 p ov v bs w):p<w.heap.size:=(gX.1 h.blk).1
theorem PS.slice (h:PS w0 p ov v bs w):∃o k,v=.slice o bs.length k:=by
 rcases h.own.2 with ⟨rfl,h0⟩|⟨g,cap,cur,rfl,_⟩
 ·rw [h0];exact ⟨none,0,rfl⟩
 exact ⟨_,_,rfl⟩
theorem PS.on (h:PS w0 p ov v bs w) (hb:AS w w'):PS w0 p ov v bs w' :=
 ⟨h.below.trans (hb.mono h.below.size),h.base,by rw [hb.block p h.lt];exact h.blk,Uw h.own hb,h.apart,h.few,h.bd⟩
theorem PS.mark (h:PS w0 p ov v bs w) (o:Bool):PS w0 p o v bs (w.setCell ⟨p,1,none⟩ (.bool o)) :=
 ⟨h.below.setCell h.base _,h.base,heap_setCell_same w p 1 _ _ _ h.blk,⟨h.own.1,h.own.2.imp id λ⟨g,cap,cur,k1,k2,k3,k4⟩=>⟨g,cap,cur,k1,k2,by
  rw [Below.heap_setCell _ _ _ _ (by show g≠p;intro e;subst e;exact h.apart (by rw [k1];rfl))];exact k3,k4⟩⟩,h.apart,h.few,h.bd⟩
theorem Kept.mark {p i:Nat} {v:Value} {w:AG} (u:Value):Kept p v w v (w.setCell ⟨p,i,none⟩ u) :=
 ⟨by simp,λk hk hp _=>by rw [Below.heap_setCell _ _ _ _ (by show k≠p;exact hp)],λk h=>.inl h⟩
theorem PS.store {w9:AG} {v':Value} {bs':List Int} (h:PS w0 p ov v bs w) (ho:w9.ownsRow w0.heap.size 5 1 v' bs'.length (cells bs')) (hg:w.grownBy w9 v.ownBlock) (hf:bs'.length<=524288) (hd:∀x ∈ bs',0<=x/\x<=255):PS w0 p ov v' bs' (w9.setCell ⟨p,0,none⟩ v'):=by
 have BC:w9.heap[p]?=some (.cells #[v,.bool ov] 70 (0,0)):=by rw [hg.block p h.lt (λe=>h.apart e.symm)];exact h.blk
 have hap:v'.ownBlock≠some p:=by
  rcases ho.2 with ⟨rfl,_⟩|⟨g,cap,cur,rfl,_,hgg,_⟩
  ·simp [Value.ownBlock]
  intro e
  have:g=p:=by simpa [Value.ownBlock] using e
  subst this;rw [hgg] at BC;injection BC with BC;injection BC with _ BC;exact absurd BC (by decide)
 refine ⟨(h.below.grown hg h.below.size λk hk=>(h.own.lt k hk).1).setCell h.base _,h.base,heap_setCell_same w9 p 0 _ _ v' BC,?_,hap,hf,hd⟩;refine ⟨ho.1,ho.2.imp id λ⟨g,cap,cur,k1,k2,k3,k4⟩=>⟨g,cap,cur,k1,k2,?_,k4⟩⟩;rw [Below.heap_setCell _ _ _ _ (by show g≠p;intro e;subst e;exact hap (by rw [k1];rfl))];exact k3
end
theorem PS.new (w:AG):PS w w.heap.size false (.slice none 0 0) [] (w.alloc (.cells #[.slice none 0 0,.bool false] 70)) :=
 ⟨aQ w _,aC _,CW w _,World.ownsRow_nil _ _ _ _,by simp [Value.ownBlock],by simp,by simp⟩
def fI (w0:AG) (p:Nat) (v:Value) (w:AG) (id:List Int) (e:Ending) (w':AG):Prop:=∃vz v' bs',e=.returned (.tuple #[])/\PS w0 p vz v' bs' w'/\St id vz bs'/\Kept p v w v' w'
end Enc
theorem Ck (w0:AG) (p:Nat) (ov:Bool) (v:Value) (bs id:List Int) (s:AH) (w:AG) (h:PS w0 p ov v bs w) (hS:St id ov bs) (hs:s.size<=100000000) :
  Calls prog 18 #[.pointer (some ⟨p,0,none⟩),.string s] w (fI w0 p v w (id++nums s)):=by
 obtain ⟨o,k,rfl⟩:=h.slice;have PO:=h.few;have kc:=h.cell;have Sf:=h.ax 0;have kf1:=h.ax 1;have ko:=h.uo;have HS:=aa h;have HST:=aa hS;obtain ⟨i0,hi,hz0,hz1,hz2⟩:=info_parts Uv;clear h hS;generalize hn:s.size=n at *;by_cases hbig:524288<bs.length+n
 ·have hd:decide ((524288:Int)<(bs.length:Int)+(n:Int))=true:=by simp;omega
  have HF:Hid (PS w0 p true (.slice o bs.length k) bs (w.setCell ⟨p,1,none⟩ (.bool true))/\St (id++nums s) true bs):=aa ⟨HS.out.mark true,.inr ⟨rfl,by
   have hl:=BN s;rw [aT];rcases HST.out with ⟨_,h⟩|⟨_,h⟩
   ·rw [<- h];omega
   omega⟩⟩
  generalize hbl:bs.length=bl at *;clear hbig;go_enter func18,ntmps18;go_wp2;go_end0;exact ⟨_,_,_,rfl,by simpa [hbl] using HF.out.1,HF.out.2,Kept.mark _⟩
 have hd:decide ((524288:Int)<(bs.length:Int)+(n:Int))=false:=by simp;omega
 have Si:St (id++nums s) ov (bs++nums s):=by
  rcases HST.out with ⟨h1,h⟩|⟨h1,h⟩
  ·exact .inl ⟨h1,by rw [h]⟩
  exact .inr ⟨h1,by rw [aT];omega⟩
 have jJ:=aa Si;clear Si;have hl2:(bs++nums s).length=bs.length+n:=by rw [aT,BN,hn]
 have Bv:=aa hl2;clear hl2;have Sj:bs.length+n<=524288:=by omega
 have Lt:=aa Sj;clear hbig Sj;generalize hbl:bs.length=bl at *;go_enter func18,ntmps18;go_wp2_with (first|(at_builtin;refine abm rfl _ _ 68 9 rfl w0.heap.size 5 i0 underlying68 underlying9 hi hz0 hz1 hz2 _ _ _ rfl HS.out.own s rfl ?c3 ?c4 ?c5 ?_))
 case c3=>unfold maxLen;have:=Lt.out;omega
 case c4=>have:=Lt.out;omega
 case c5=>exact HS.out.below.size
 intro v' w9 hown hg hv
 have hown':w9.ownsRow w0.heap.size 5 1 v' (bs++nums s).length (cells (bs++nums s)):=by
  have:cells (bs++nums s)=cells bs++strCells s:=by rw [M9];unfold cells;rw [qw]
  rw [this,aT,BN,hbl,hn];exact hown
 have HE:=aa (HS.out.store hown' hg (by rw [Bv.out];exact Lt.out) (λx hx=>(List.mem_append.1 hx).elim (HS.out.bd x) (adf s x)));have HK:=aa (Kept.store (p:=p) (i:=0) hg hv v');have kc9:w9.cell? ⟨p,0,none⟩=some (.slice o bl k):=by rw [World.cell?_of_block (a:=⟨p,0,none⟩) (hg.block p HS.out.lt (λe=>HS.out.apart e.symm))];exact kc
 have kf9:w9.frozen? ⟨p,0,none⟩=false:=by rw [World.frozen?_of_block (a:=⟨p,0,none⟩) (hg.block p HS.out.lt (λe=>HS.out.apart e.symm))];exact Sf
 obtain ⟨o9,k9,rfl⟩:∃o9 k9,v'=.slice o9 (bs++nums s).length k9:=by
  rcases hown'.2 with ⟨rfl,h0⟩|⟨g,cap,cur,rfl,_⟩
  ·rw [h0];exact ⟨none,0,rfl⟩
  exact ⟨_,_,rfl⟩
 clear hown hown' hg hv kc ko Sf kf1 HS;generalize (bs++nums s).length=n9 at *;go_wp2;go_end0;exact ⟨_,_,_,rfl,HE.out,jJ.out,by simpa [hbl] using HK.out⟩
namespace Enc
theorem aak {a b:List Int} (h:cells a=cells b):a=b:=by
 unfold cells at h;exact (List.map_inj_right (λx y h=>by injection h)).1 h
theorem AU (xs:List Int) (h:∀x ∈ xs,0<=x/\x<=255):nums (strOfNums xs)=xs:=aak (by rw [<- M9,VN xs h])
theorem PS.mono {w0 w1 w:AG} {p:Nat} {ov:Bool} {v:Value} {bs:List Int} (h:PS w1 p ov v bs w) (hb:AS w0 w1):PS w0 p ov v bs w :=
 ⟨hb.trans (h.below.mono hb.size),eU hb.size h.base,h.blk,⟨h.own.1,h.own.2.imp (λh=>h) λ⟨g,cap,cur,k1,k2,k3⟩=>⟨g,cap,cur,k1,eU hb.size k2,k3⟩⟩,h.apart,h.few,h.bd⟩
theorem St.nil:St [] false []:=.inl ⟨rfl,rfl⟩
theorem fI.step {w0 w w1:AG} {p:Nat} {v v1:Value} {id:List Int} {e:Ending} {w':AG} (hk:Kept p v w v1 w1) (h:fI w0 p v1 w1 id e w'):fI w0 p v w id e w':=by
 obtain ⟨ov,v',bs,h1,h2,h3,h4⟩:=h;exact ⟨ov,v',bs,h1,h2,h3,hk.trans h4⟩
end Enc
theorem dh (w0:AG) (p:Nat) (ov:Bool) (v:Value) (bs id:List Int) (n:Int) (w:AG) (h:PS w0 p ov v bs w) (hS:St id ov bs) :
  Calls prog 60 #[.pointer (some ⟨p,0,none⟩),.int .i64 n] w (fI w0 p v w (id++[n%256])):=by
 have hw:=wrap_u8 n;have hb:=aQ w (.cells #[.int .u8 (n%256)] 5)
 have hcv:(convert 68 9 (.slice (some ⟨w.heap.size,0,none⟩) 1 1)).run prog (w.alloc (.cells #[.int .u8 (n%256)] 5))=.ok (.string (strOfNums [n%256])) (w.alloc (.cells #[.int .u8 (n%256)] 5)) :=
  run_convert_bytes_arg _ 68 5 underlying68 underlying5 w.heap.size 0 1 1 [n%256] rfl (λi hi=>by
   rw [Nat.zero_add,World.cell?_alloc_at _ _ _ _ rfl]
   match i,hi with
   | 0,_=>rfl) 9 underlying9
 have vZ:nums (strOfNums [n%256]) = [n%256]:=AU _ (λx hx=>by rw [List.mem_singleton.1 hx];omega);have hsz:(strOfNums [n%256]).size=1:=GX _;have bZ:Hid (Kept p v w v (w.alloc (.cells #[.int .u8 (n%256)] 5))):=aa (Kept.below hb);have HC:=aa (Ck w0 p ov v bs id (strOfNums [n%256]) _ (h.on hb) hS (by rw [hsz];omega));rw [vZ] at HC;clear h hS hb vZ hsz;generalize strOfNums [n%256]=S at *;go_enter func60,ntmps60;go_wp2_with fail;refine HC.out.mono ?_;rintro e w1 ⟨cf,v1,b1,rfl,h1,s1,k1⟩;have HF:=aa (⟨h1,s1,bZ.out.trans k1⟩:PS w0 p cf v1 b1 w1/\St (id++[n%256]) cf b1/\Kept p v w v1 w1);clear h1 s1 k1 HC bZ hcv;go_wp2;go_end0;exact ⟨_,_,_,rfl,HF.out.1,HF.out.2.1,HF.out.2.2⟩
theorem dU (w0:AG) (p:Nat) (ov:Bool) (v:Value) (bs id:List Int) (n:Int) (w:AG) (h:PS w0 p ov v bs w) (hS:St id ov bs) (h0:0<=n) (h1:n<=9223372036854775807) :
  Calls prog 64 #[.pointer (some ⟨p,0,none⟩),.int .i64 n] w (fI w0 p v w (id++af.uB n)):=by
 have hw:IntKind.u64.wrap n=n:=by simp [IntKind.wrap,IntKind.signed,IntKind.bits];omega
 have HR:=aa (aal n w h0 (by omega));have vZ:nums (strOfNums (af.uB n))=af.uB n:=AU _ (CN _ n h0 (aC _));have hsz:(strOfNums (af.uB n)).size<=10:=by rw [GX];exact af.yd h0 (by omega)
 have HP:Hid (∀w1,AS w w1->Calls prog 18 #[.pointer (some ⟨p,0,none⟩),.string (strOfNums (af.uB n))] w1 (fI w0 p v w1 (id++af.uB n))):=aa λw1 hb=>by
  have:=Ck w0 p ov v bs id (strOfNums (af.uB n)) w1 (h.on hb) hS (by omega)
  rwa [vZ] at this
 clear h hS vZ hsz;generalize strOfNums (af.uB n)=S at *;go_enter func64,ntmps64;go_wp2_with fail;refine HR.out.mono ?_;rintro e w1 ⟨rfl,hb⟩;have HC:=aa (HP.out w1 hb);have bZ:Hid (Kept p v w v w1):=aa (Kept.below hb);clear hb HP HR;go_wp2_with fail;refine HC.out.mono ?_;rintro e w2 ⟨cf,v1,b1,rfl,h1,s1,k1⟩;have HF:=aa (⟨h1,s1,bZ.out.trans k1⟩:PS w0 p cf v1 b1 w2/\St (id++af.uB n) cf b1/\Kept p v w v1 w2);clear h1 s1 k1 HC bZ;go_wp2;go_end0;exact ⟨_,_,_,rfl,HF.out.1,HF.out.2.1,HF.out.2.2⟩
theorem dS (w0:AG) (p:Nat) (ov:Bool) (v:Value) (bs id:List Int) (n:Int) (w:AG) (h:PS w0 p ov v bs w) (hS:St id ov bs) (h0:-9223372036854775808<=n) (h1:n<=9223372036854775807) :
  Calls prog 116 #[.pointer (some ⟨p,0,none⟩),.int .i64 n] w (fI w0 p v w (id++af.sB n)):=by
 have HR:=aa (aam n w h0 (by omega));have vZ:nums (strOfNums (af.sB n))=af.sB n:=AU _ (CO _ n (aC _));have hsz:(strOfNums (af.sB n)).size<=10:=by rw [GX];exact af.BR h0 (by omega)
 have HP:Hid (∀w1,AS w w1->Calls prog 18 #[.pointer (some ⟨p,0,none⟩),.string (strOfNums (af.sB n))] w1 (fI w0 p v w1 (id++af.sB n))):=aa λw1 hb=>by
  have:=Ck w0 p ov v bs id (strOfNums (af.sB n)) w1 (h.on hb) hS (by omega)
  rwa [vZ] at this
 have hw:wrap64 n=n:=by unfold wrap64;omega
 clear h hS vZ hsz;generalize strOfNums (af.sB n)=S at *;go_enter func116,ntmps116;go_wp2_with fail;refine HR.out.mono ?_;rintro e w1 ⟨rfl,hb⟩;have HC:=aa (HP.out w1 hb);have bZ:Hid (Kept p v w v w1):=aa (Kept.below hb);clear hb HP HR;go_wp2_with fail;refine HC.out.mono ?_;rintro e w2 ⟨cf,v1,b1,rfl,h1,s1,k1⟩;have HF:=aa (⟨h1,s1,bZ.out.trans k1⟩:PS w0 p cf v1 b1 w2/\St (id++af.sB n) cf b1/\Kept p v w v1 w2);clear h1 s1 k1 HC bZ;go_wp2;go_end0;exact ⟨_,_,_,rfl,HF.out.1,HF.out.2.1,HF.out.2.2⟩
theorem Df (w0:AG) (p:Nat) (ov:Bool) (v:Value) (bs id:List Int) (s:AH) (w:AG) (h:PS w0 p ov v bs w) (hS:St id ov bs) (hs:s.size<=100000000) :
  Calls prog 63 #[.pointer (some ⟨p,0,none⟩),.string s] w (fI w0 p v w (id++jH s)):=by
 have HC:=aa (dU w0 p ov v bs id (s.size:Int) w h hS (by omega) (by omega));have e1:id++jH s=id++af.uB (s.size:Int)++nums s:=by unfold jH;rw [bw]
 rw [e1];clear h hS e1;generalize hn:s.size=n at *;go_enter func63,ntmps63;go_wp2_with fail;refine HC.out.mono ?_;rintro e w1 ⟨cf,v1,b1,rfl,h1,s1,k1⟩;have bg:=aa (Ck w0 p cf v1 b1 _ s w1 h1 s1 (by omega));have HK:=aa k1;clear h1 s1 k1 HC;go_wp2_with fail;refine bg.out.mono ?_;rintro e w2 ⟨bX,v2,b2,rfl,h2,s2,k2⟩;have HF:=aa (⟨h2,s2,HK.out.trans k2⟩:PS w0 p bX v2 b2 w2/\St (id++af.uB (n:Int)++nums s) bX b2/\Kept p v w v2 w2);clear h2 s2 k2 bg HK;go_wp2;go_end0;exact ⟨_,_,_,rfl,HF.out.1,HF.out.2.1,HF.out.2.2⟩
namespace Enc
theorem PM {w:AG} {B:Nat} {v:Value} {bs:List Int} (h:w.ownsRow B 5 1 v bs.length (cells bs)):(convert 68 9 v).run prog w=.ok (.string (strOfNums bs)) w:=by
 rcases Nat.eq_zero_or_pos bs.length with h0|h0
 ·have hn:bs = []:=iZ.1 h0;subst hn;rcases h.2 with ⟨rfl,_⟩|⟨g,cap,cur,rfl,_,hg,_⟩
  ·exact run_convert_bytes_nil w 68 5 underlying68 underlying5 0 0 9 underlying9
  exact run_convert_bytes_arg w 68 5 underlying68 underlying5 g 0 0 cap [] rfl (λi hi=>by omega) 9 underlying9
 obtain ⟨g,cap,rfl,hcv⟩:=FO h h0;exact hcv
end Enc
namespace Enc
structure vW (w1:AG) (p:Nat) (ov:Bool) (v:Value) (bs:List Int) (w:AG):Prop where
 base:w1.heap.size<=p
 blk:w.heap[p]?=some (.cells #[v,.bool ov] 70 (0,0))
 own:w.ownsRow w1.heap.size 5 1 v bs.length (cells bs)
 few:bs.length<=524288
 bd:∀x ∈ bs,0<=x/\x<=255
theorem vW.cell {w1 w:AG} {p:Nat} {ov:Bool} {v:Value} {bs:List Int} (h:vW w1 p ov v bs w):w.cell? ⟨p,0,none⟩=some v:=by unfold World.cell?;rw [h.blk];rfl
theorem vW.uo {w1 w:AG} {p:Nat} {ov:Bool} {v:Value} {bs:List Int} (h:vW w1 p ov v bs w):w.cell? ⟨p,1,none⟩=some (.bool ov):=by unfold World.cell?;rw [h.blk];rfl
theorem vW.slice {w1 w:AG} {p:Nat} {ov:Bool} {v:Value} {bs:List Int} (h:vW w1 p ov v bs w):∃o k,v=.slice o bs.length k:=by
 rcases h.own.2 with ⟨rfl,h0⟩|⟨g,cap,cur,rfl,_⟩
 ·rw [h0];exact ⟨none,0,rfl⟩
 exact ⟨_,_,rfl⟩
theorem vW.of {w1 w w' : AG} {p q : Nat} {oq : Bool} {v v' u : Value} {bq : List Int} (hq : PS w1 q oq u bq w) (hpq : p < w1.heap.size) (hown : ∀ b, v.ownBlock = some b → b < w1.heap.size) (hk : Kept p v w v' w') : vW w1 q oq u bq w' :=
  ⟨hq.base, by rw [hk.block q hq.lt (by have := hq.base; omega) (λe => by have := hown _ e.symm; have := hq.base; omega)]; exact hq.blk,
   ⟨hq.own.1, hq.own.2.imp (λh => h) λ⟨g, cap, cur, k1, k2, k3, k4⟩ => ⟨g, cap, cur, k1, k2, by rw [hk.block g (gX.1 k3).1 (by omega) (λe => by have := hown _ e.symm; omega)]; exact k3, k4⟩⟩, hq.few, hq.bd⟩
end Enc
theorem Py (w0 w1:AG) (p q:Nat) (ov oq:Bool) (v u:Value) (bs id bq iq:List Int) (w:AG) (h:PS w0 p ov v bs w) (hS:St id ov bs) (hq:vW w1 q oq u bq w) (hQ:St iq oq bq) (hpq:p<w1.heap.size) :
  Calls prog 61 #[.pointer (some ⟨p,0,none⟩),.pointer (some ⟨q,0,none⟩)] w (fI w0 p v w (id++df iq)):=by
 have hne:p≠q:=by have:=hq.base;omega
 have kq:=hq.uo;have kp:=h.uo;have kf:=h.ax 1;have vZ:nums (strOfNums bq)=bq:=AU _ hq.bd;have PN:(strOfNums bq).size=bq.length:=GX _;have PO:=hq.few;have hm:=h.mark (ov || oq);have hbl:∀k,k≠p->(w.setCell ⟨p,1,none⟩ (.bool (ov || oq))).heap[k]?=w.heap[k]?:=λk hk=>Below.heap_setCell _ _ _ _ (by show k≠p;exact hk)
 have lq:(w.setCell ⟨p,1,none⟩ (.bool (ov || oq))).ownsRow w1.heap.size 5 1 u bq.length (cells bq) :=
  ⟨hq.own.1,hq.own.2.imp (λh=>h) λ⟨g,cap,cur,k1,k2,k3,k4⟩=>⟨g,cap,cur,k1,k2,by rw [hbl g (by omega)];exact k3,k4⟩⟩
 have hcv:=PM lq
 have yl:(w.setCell ⟨p,1,none⟩ (.bool (ov || oq))).cell? ⟨q,0,none⟩=some u:=by
  rw [World.cell?_of_block (a:=⟨q,0,none⟩) (hbl q (λe=>hne e.symm))];exact hq.cell
 have aan:∃GY,St GY (ov || oq) bs/\∀vz bs',bs'.length<=524288->St (GY++jH (strOfNums bq)) vz bs'->St (id++df iq) vz bs':=by
  have hL:jH (strOfNums bq)=df bq:=by unfold jH df;rw [PN,vZ]
  rw [hL];rcases hQ with ⟨h1,h2⟩|⟨h1,h2⟩
  ·refine ⟨id,by rw [h1,Bool.or_false];exact hS,λvz bs' _ h=>by rw [<- h2];exact h⟩
  
  refine ⟨id++iq,.inr ⟨by rw [h1,Bool.or_true],by rw [aT];omega⟩,λvz bs' hf h=>?_⟩;rcases h with ⟨h3,h4⟩|⟨h3,_⟩
  ·rw [h4,aT,aT] at hf;omega
  exact .inr ⟨h3,by unfold df;rw [aT,aT];omega⟩
 obtain ⟨GY,hs2,hend⟩:=aan;have HC:=aa (Df w0 p (ov || oq) v bs GY (strOfNums bq) _ hm hs2 (by omega));have PQ:=aa hend;have bZ:Hid (Kept p v w v (w.setCell ⟨p,1,none⟩ (.bool (ov || oq)))):=aa (Kept.mark _);obtain ⟨oU,kU,rfl⟩:=hq.slice;clear h hS hq hQ hm hbl lq hs2 hend vZ PN PO hpq;generalize strOfNums bq=S at *;generalize bq.length=nU at *;cases ov with
 | true =>
  simp only [Bool.true_or] at *;go_enter func61,ntmps61;go_wp2_with fail;refine HC.out.mono ?_;rintro e w2 ⟨bX,v2,b2,rfl,h2,s2,k2⟩;have HF:=aa (⟨h2,PQ.out bX b2 h2.few s2,bZ.out.trans k2⟩:PS w0 p bX v2 b2 w2/\St (id++df iq) bX b2/\Kept p v w v2 w2);clear h2 s2 k2 HC bZ;go_wp2;go_end0;exact ⟨_,_,_,rfl,HF.out.1,HF.out.2.1,HF.out.2.2⟩
 | false =>
  simp only [Bool.false_or] at *;go_enter func61,ntmps61;go_wp2_with fail;refine HC.out.mono ?_;rintro e w2 ⟨bX,v2,b2,rfl,h2,s2,k2⟩;have HF:=aa (⟨h2,PQ.out bX b2 h2.few s2,bZ.out.trans k2⟩:PS w0 p bX v2 b2 w2/\St (id++df iq) bX b2/\Kept p v w v2 w2);clear h2 s2 k2 HC bZ;go_wp2;go_end0;exact ⟨_,_,_,rfl,HF.out.1,HF.out.2.1,HF.out.2.2⟩
theorem ZY (w0 w1:AG) (p q:Nat) (ov oq:Bool) (v u:Value) (bs id bq iq:List Int) (w:AG) (h:PS w0 p ov v bs w) (hS:St id ov bs) (hq:PS w1 q oq u bq w) (hQ:St iq oq bq) (hpq:p<w1.heap.size) :
  Calls prog 61 #[.pointer (some ⟨p,0,none⟩),.pointer (some ⟨q,0,none⟩)] w (fI w0 p v w (id++df iq)) :=
 Py w0 w1 p q ov oq v u bs id bq iq w h hS ⟨hq.base,hq.blk,hq.own,hq.few,hq.bd⟩ hQ hpq
end Go.Proofs.YtcfifbgemfladaaGreatDoor
namespace Go.Proofs.YtcfifbgemfladaaGreatDoor
open Go.RowKit au Go.Proofs.Tryz
set_option linter.unusedVariables false
set_option maxHeartbeats 1000000
theorem aaI (op:Int) (w:AG) (h:op<=-1):Calls prog 104 #[.int .i64 op] w λe w'=>e=.returned (.int .i64 0)/\w'=w:=by
 have hs:=fJ op;have hp:decide (0<(aZ.sig op).1)=false:=by exact aj (λhp=>by have:=hs.1 hp;omega)
 clear hs;obtain ⟨q0,q1,iK,iL,iM,iN,iO,q2,q3,q4,iP,iQ,iR,q16,iS,iT,iU,iV,iW,kv,kx,ky,kz,kC,kD,_⟩:=AN op [0,1,15,26,27,63,64,2,3,4,12,13,14,16,17,40,41,65,66,42,43,56,57,67,68] (by simp;omega);have r32:decide (32<=op/\op<=36)=false:=aj;have R32:=ah r32;clear r32;have eD:decide (44<=op/\op<=55)=false:=aj;have jO:=ah eD;clear eD;have eH:decide (58<=op/\op<=62)=false:=aj;have kE:=ah eH;clear eH;have eM:decide (91<=op/\op<=102)=false:=aj;have kR:=ah eM;clear eM;have eO:decide (139<=op/\op<=166)=false:=aj;have lu:=ah eO;clear eO;have eP:decide (168<=op/\op<=171)=false:=aj;have lT:=ah eP;clear eP;have eQ:decide (174<=op/\op<=191)=false:=aj;have mh:=ah eQ;clear eQ;clear h;go_enter func104,ntmps104;go_wp2_with fail;refine (fK _ _).mono ?_;rintro e u ⟨rfl,rfl⟩;generalize aZ.sig op=t at *;go_wp2_with fail;refine (aX _ _ _ _).mono ?_;rintro e u ⟨rfl,rfl⟩;rw [R32.out];go_wp2_with fail;refine (aX _ _ _ _).mono ?_;rintro e u ⟨rfl,rfl⟩;rw [jO.out];go_wp2_with fail;refine (aX _ _ _ _).mono ?_;rintro e u ⟨rfl,rfl⟩;rw [kE.out];go_wp2_with fail;refine (aX _ _ _ _).mono ?_;rintro e u ⟨rfl,rfl⟩;rw [kR.out];go_wp2_with fail;refine (aX _ _ _ _).mono ?_;rintro e u ⟨rfl,rfl⟩;rw [lu.out];go_wp2_with fail;refine (aX _ _ _ _).mono ?_;rintro e u ⟨rfl,rfl⟩;rw [lT.out];go_wp2_with fail;refine (aX _ _ _ _).mono ?_;rintro e u ⟨rfl,rfl⟩;rw [mh.out];go_wp2;go_ret;exact ⟨rfl,rfl⟩
theorem aaJ (op:Int) (w:AG) (h:0<=op/\op<=0):Calls prog 104 #[.int .i64 op] w λe w'=>e=.returned (.int .i64 1)/\w'=w:=by
 have hs:=fJ op;have hp:decide (0<(aZ.sig op).1)=false:=by exact aj (λhp=>by have:=hs.1 hp;omega)
 clear hs;obtain rfl:op=0:=by omega
 clear h;go_enter func104,ntmps104;go_wp2_with fail;refine (fK _ _).mono ?_;rintro e u ⟨rfl,rfl⟩;generalize aZ.sig 0=t at *;go_wp2;go_ret;exact ⟨rfl,rfl⟩
theorem aaK (op:Int) (w:AG) (h:1<=op/\op<=1):Calls prog 104 #[.int .i64 op] w λe w'=>e=.returned (.int .i64 1)/\w'=w:=by
 have hs:=fJ op;have hp:decide (0<(aZ.sig op).1)=false:=by exact aj (λhp=>by have:=hs.1 hp;omega)
 clear hs;obtain rfl:op=1:=by omega
 clear h;go_enter func104,ntmps104;go_wp2_with fail;refine (fK _ _).mono ?_;rintro e u ⟨rfl,rfl⟩;generalize aZ.sig 1=t at *;go_wp2;go_ret;exact ⟨rfl,rfl⟩
theorem aaL (op:Int) (w:AG) (h:2<=op/\op<=2):Calls prog 104 #[.int .i64 op] w λe w'=>e=.returned (.int .i64 2)/\w'=w:=by
 have hs:=fJ op;have hp:decide (0<(aZ.sig op).1)=false:=by exact aj (λhp=>by have:=hs.1 hp;omega)
 clear hs;obtain rfl:op=2:=by omega
 clear h;go_enter func104,ntmps104;go_wp2_with fail;refine (fK _ _).mono ?_;rintro e u ⟨rfl,rfl⟩;generalize aZ.sig 2=t at *;go_wp2;go_ret;exact ⟨rfl,rfl⟩
theorem aaM (op:Int) (w:AG) (h:3<=op/\op<=3):Calls prog 104 #[.int .i64 op] w λe w'=>e=.returned (.int .i64 2)/\w'=w:=by
 have hs:=fJ op;have hp:decide (0<(aZ.sig op).1)=false:=by exact aj (λhp=>by have:=hs.1 hp;omega)
 clear hs;obtain rfl:op=3:=by omega
 clear h;go_enter func104,ntmps104;go_wp2_with fail;refine (fK _ _).mono ?_;rintro e u ⟨rfl,rfl⟩;generalize aZ.sig 3=t at *;go_wp2;go_ret;exact ⟨rfl,rfl⟩
theorem aaN (op:Int) (w:AG) (h:4<=op/\op<=4):Calls prog 104 #[.int .i64 op] w λe w'=>e=.returned (.int .i64 3)/\w'=w:=by
 have hs:=fJ op;have hp:decide (0<(aZ.sig op).1)=false:=by exact aj (λhp=>by have:=hs.1 hp;omega)
 clear hs;obtain rfl:op=4:=by omega
 clear h;go_enter func104,ntmps104;go_wp2_with fail;refine (fK _ _).mono ?_;rintro e u ⟨rfl,rfl⟩;generalize aZ.sig 4=t at *;go_wp2;go_ret;exact ⟨rfl,rfl⟩
theorem aaO (op:Int) (w:AG) (h:5<=op/\op<=11):Calls prog 104 #[.int .i64 op] w λe w'=>e=.returned (.int .i64 0)/\w'=w:=by
 have hs:=fJ op;have hp:decide (0<(aZ.sig op).1)=false:=by exact aj (λhp=>by have:=hs.1 hp;omega)
 clear hs;obtain ⟨q0,q1,iK,iL,iM,iN,iO,q2,q3,q4,iP,iQ,iR,q16,iS,iT,iU,iV,iW,kv,kx,ky,kz,kC,kD,_⟩:=AN op [0,1,15,26,27,63,64,2,3,4,12,13,14,16,17,40,41,65,66,42,43,56,57,67,68] (by simp;omega);have r32:decide (32<=op/\op<=36)=false:=aj;have R32:=ah r32;clear r32;have eD:decide (44<=op/\op<=55)=false:=aj;have jO:=ah eD;clear eD;have eH:decide (58<=op/\op<=62)=false:=aj;have kE:=ah eH;clear eH;have eM:decide (91<=op/\op<=102)=false:=aj;have kR:=ah eM;clear eM;have eO:decide (139<=op/\op<=166)=false:=aj;have lu:=ah eO;clear eO;have eP:decide (168<=op/\op<=171)=false:=aj;have lT:=ah eP;clear eP;have eQ:decide (174<=op/\op<=191)=false:=aj;have mh:=ah eQ;clear eQ;clear h;go_enter func104,ntmps104;go_wp2_with fail;refine (fK _ _).mono ?_;rintro e u ⟨rfl,rfl⟩;generalize aZ.sig op=t at *;go_wp2_with fail;refine (aX _ _ _ _).mono ?_;rintro e u ⟨rfl,rfl⟩;rw [R32.out];go_wp2_with fail;refine (aX _ _ _ _).mono ?_;rintro e u ⟨rfl,rfl⟩;rw [jO.out];go_wp2_with fail;refine (aX _ _ _ _).mono ?_;rintro e u ⟨rfl,rfl⟩;rw [kE.out];go_wp2_with fail;refine (aX _ _ _ _).mono ?_;rintro e u ⟨rfl,rfl⟩;rw [kR.out];go_wp2_with fail;refine (aX _ _ _ _).mono ?_;rintro e u ⟨rfl,rfl⟩;rw [lu.out];go_wp2_with fail;refine (aX _ _ _ _).mono ?_;rintro e u ⟨rfl,rfl⟩;rw [lT.out];go_wp2_with fail;refine (aX _ _ _ _).mono ?_;rintro e u ⟨rfl,rfl⟩;rw [mh.out];go_wp2;go_ret;exact ⟨rfl,rfl⟩
theorem aaP (op:Int) (w:AG) (h:12<=op/\op<=12):Calls prog 104 #[.int .i64 op] w λe w'=>e=.returned (.int .i64 4)/\w'=w:=by
 have hs:=fJ op;have hp:decide (0<(aZ.sig op).1)=false:=by exact aj (λhp=>by have:=hs.1 hp;omega)
 clear hs;obtain rfl:op=12:=by omega
 clear h;go_enter func104,ntmps104;go_wp2_with fail;refine (fK _ _).mono ?_;rintro e u ⟨rfl,rfl⟩;generalize aZ.sig 12=t at *;go_wp2;go_ret;exact ⟨rfl,rfl⟩
theorem aaQ (op:Int) (w:AG) (h:13<=op/\op<=13):Calls prog 104 #[.int .i64 op] w λe w'=>e=.returned (.int .i64 4)/\w'=w:=by
 have hs:=fJ op;have hp:decide (0<(aZ.sig op).1)=false:=by exact aj (λhp=>by have:=hs.1 hp;omega)
 clear hs;obtain rfl:op=13:=by omega
 clear h;go_enter func104,ntmps104;go_wp2_with fail;refine (fK _ _).mono ?_;rintro e u ⟨rfl,rfl⟩;generalize aZ.sig 13=t at *;go_wp2;go_ret;exact ⟨rfl,rfl⟩
theorem aaR (op:Int) (w:AG) (h:14<=op/\op<=14):Calls prog 104 #[.int .i64 op] w λe w'=>e=.returned (.int .i64 5)/\w'=w:=by
 have hs:=fJ op;have hp:decide (0<(aZ.sig op).1)=false:=by exact aj (λhp=>by have:=hs.1 hp;omega)
 clear hs;obtain rfl:op=14:=by omega
 clear h;go_enter func104,ntmps104;go_wp2_with fail;refine (fK _ _).mono ?_;rintro e u ⟨rfl,rfl⟩;generalize aZ.sig 14=t at *;go_wp2;go_ret;exact ⟨rfl,rfl⟩
theorem aaS (op:Int) (w:AG) (h:15<=op/\op<=15):Calls prog 104 #[.int .i64 op] w λe w'=>e=.returned (.int .i64 1)/\w'=w:=by
 have hs:=fJ op;have hp:decide (0<(aZ.sig op).1)=false:=by exact aj (λhp=>by have:=hs.1 hp;omega)
 clear hs;obtain rfl:op=15:=by omega
 clear h;go_enter func104,ntmps104;go_wp2_with fail;refine (fK _ _).mono ?_;rintro e u ⟨rfl,rfl⟩;generalize aZ.sig 15=t at *;go_wp2;go_ret;exact ⟨rfl,rfl⟩
theorem aaT (op:Int) (w:AG) (h:16<=op/\op<=16):Calls prog 104 #[.int .i64 op] w λe w'=>e=.returned (.int .i64 6)/\w'=w:=by
 have hs:=fJ op;have hp:decide (0<(aZ.sig op).1)=false:=by exact aj (λhp=>by have:=hs.1 hp;omega)
 clear hs;obtain rfl:op=16:=by omega
 clear h;go_enter func104,ntmps104;go_wp2_with fail;refine (fK _ _).mono ?_;rintro e u ⟨rfl,rfl⟩;generalize aZ.sig 16=t at *;go_wp2;go_ret;exact ⟨rfl,rfl⟩
theorem aaU (op:Int) (w:AG) (h:17<=op/\op<=17):Calls prog 104 #[.int .i64 op] w λe w'=>e=.returned (.int .i64 7)/\w'=w:=by
 have hs:=fJ op;have hp:decide (0<(aZ.sig op).1)=false:=by exact aj (λhp=>by have:=hs.1 hp;omega)
 clear hs;obtain rfl:op=17:=by omega
 clear h;go_enter func104,ntmps104;go_wp2_with fail;refine (fK _ _).mono ?_;rintro e u ⟨rfl,rfl⟩;generalize aZ.sig 17=t at *;go_wp2_with fail;refine (aX _ _ _ _).mono ?_;rintro e u ⟨rfl,rfl⟩;rw [show decide ((32:Int)<=17/\(17:Int)<=36)=false by decide];go_wp2;go_ret;exact ⟨rfl,rfl⟩
theorem aaV (op:Int) (w:AG) (h:18<=op/\op<=25):Calls prog 104 #[.int .i64 op] w λe w'=>e=.returned (.int .i64 0)/\w'=w:=by
 have hs:=fJ op;have hp:decide (0<(aZ.sig op).1)=false:=by exact aj (λhp=>by have:=hs.1 hp;omega)
 clear hs;obtain ⟨q0,q1,iK,iL,iM,iN,iO,q2,q3,q4,iP,iQ,iR,q16,iS,iT,iU,iV,iW,kv,kx,ky,kz,kC,kD,_⟩:=AN op [0,1,15,26,27,63,64,2,3,4,12,13,14,16,17,40,41,65,66,42,43,56,57,67,68] (by simp;omega);have r32:decide (32<=op/\op<=36)=false:=aj;have R32:=ah r32;clear r32;have eD:decide (44<=op/\op<=55)=false:=aj;have jO:=ah eD;clear eD;have eH:decide (58<=op/\op<=62)=false:=aj;have kE:=ah eH;clear eH;have eM:decide (91<=op/\op<=102)=false:=aj;have kR:=ah eM;clear eM;have eO:decide (139<=op/\op<=166)=false:=aj;have lu:=ah eO;clear eO;have eP:decide (168<=op/\op<=171)=false:=aj;have lT:=ah eP;clear eP;have eQ:decide (174<=op/\op<=191)=false:=aj;have mh:=ah eQ;clear eQ;clear h;go_enter func104,ntmps104;go_wp2_with fail;refine (fK _ _).mono ?_;rintro e u ⟨rfl,rfl⟩;generalize aZ.sig op=t at *;go_wp2_with fail;refine (aX _ _ _ _).mono ?_;rintro e u ⟨rfl,rfl⟩;rw [R32.out];go_wp2_with fail;refine (aX _ _ _ _).mono ?_;rintro e u ⟨rfl,rfl⟩;rw [jO.out];go_wp2_with fail;refine (aX _ _ _ _).mono ?_;rintro e u ⟨rfl,rfl⟩;rw [kE.out];go_wp2_with fail;refine (aX _ _ _ _).mono ?_;rintro e u ⟨rfl,rfl⟩;rw [kR.out];go_wp2_with fail;refine (aX _ _ _ _).mono ?_;rintro e u ⟨rfl,rfl⟩;rw [lu.out];go_wp2_with fail;refine (aX _ _ _ _).mono ?_;rintro e u ⟨rfl,rfl⟩;rw [lT.out];go_wp2_with fail;refine (aX _ _ _ _).mono ?_;rintro e u ⟨rfl,rfl⟩;rw [mh.out];go_wp2;go_ret;exact ⟨rfl,rfl⟩
end Go.Proofs.YtcfifbgemfladaaGreatDoor
