/- Texts that the claim needs. -/
import Derived.Test.YtmfcojpjpgldhaaGreatDoorQEBy17
import Derived.Test.YtmfcojpjpgldhaaGreatDoorQEBy23
import Derived.Test.YtmfcojpjpgldhaaGreatDoorQEBy3
namespace Go.Proofs.YtmfcojpjpgldhaaGreatDoor
open Go.RowKit aA Enc Go.Lib Go.Proofs.Tryz
set_option linter.unusedVariables false
set_option maxRecDepth 100000
set_option maxHeartbeats 1000000
namespace Enc
theorem VR {a b:List Int} (h:cells a=cells b):a=b:=by
 unfold cells at h;exact (List.map_inj_right (λx y h=>by injection h)).1 h
theorem EG (xs:List Int) (h:∀x ∈ xs,0<=x/\x<=255):nums (strOfNums xs)=xs:=VR (by rw [<- F7,Ea xs h])
theorem PS.mono {w0 w1 w:World} {p:Nat} {ov:Bool} {v:Value} {bs:List Int} (h:PS w1 p ov v bs w) (hb:Below w0.heap.size w0 w1):PS w0 p ov v bs w :=
 ⟨hb.trans (h.below.mono hb.size),tL hb.size h.base,h.blk,⟨h.own.1,h.own.2.imp (λh=>h) λ⟨g,cap,cur,k1,k2,k3⟩=>⟨g,cap,cur,k1,tL hb.size k2,k3⟩⟩,h.apart,h.few,h.bd⟩
theorem St.nil:St [] false []:=.inl ⟨rfl,rfl⟩
theorem gH.step {w0 w w1:World} {p:Nat} {v v1:Value} {id:List Int} {e:Ending} {w':World} (hk:Kept p v w v1 w1) (h:gH w0 p v1 w1 id e w'):gH w0 p v w id e w':=by
 obtain ⟨ov,v',bs,h1,h2,h3,h4⟩:=h;exact ⟨ov,v',bs,h1,h2,h3,hk.trans h4⟩
end Enc
theorem dV (w0:World) (p:Nat) (ov:Bool) (v:Value) (bs id:List Int) (n:Int) (w:World) (h:PS w0 p ov v bs w) (hS:St id ov bs) :
  Calls prog 95 #[.pointer (some ⟨p,0,none⟩),.int .i64 n] w (gH w0 p v w (id++[n%256])):=by
 have hw:=wrap_u8 n;have hb:=aU w (.cells #[.int .u8 (n%256)] 5)
 have hcv:(convert 59 9 (.slice (some ⟨w.heap.size,0,none⟩) 1 1)).run prog (w.alloc (.cells #[.int .u8 (n%256)] 5))=.ok (.string (strOfNums [n%256])) (w.alloc (.cells #[.int .u8 (n%256)] 5)) :=
  run_convert_bytes_arg _ 59 5 underlying59 underlying5 w.heap.size 0 1 1 [n%256] rfl (λi hi=>by
   rw [Nat.zero_add,World.cell?_alloc_at _ _ _ _ rfl]
   match i,hi with
   | 0,_=>rfl) 9 underlying9
 have uV:nums (strOfNums [n%256]) = [n%256]:=EG _ (λx hx=>by rw [List.mem_singleton.1 hx];omega);have hsz:(strOfNums [n%256]).size=1:=Bc _;have aN:Hid (Kept p v w v (w.alloc (.cells #[.int .u8 (n%256)] 5))):=aa (Kept.below hb);have HC:=aa (Bd w0 p ov v bs id (strOfNums [n%256]) _ (h.on hb) hS (by rw [hsz];omega));rw [uV] at HC;clear h hS hb uV hsz;generalize strOfNums [n%256]=S at *;go_enter func95,ntmps95;go_wp2_with fail;refine HC.out.mono ?_;rintro e w1 ⟨df,v1,b1,rfl,h1,s1,k1⟩;have HF:=aa (⟨h1,s1,aN.out.trans k1⟩:PS w0 p df v1 b1 w1/\St (id++[n%256]) df b1/\Kept p v w v1 w1);clear h1 s1 k1 HC aN hcv;go_wp2;go_end0;exact ⟨_,_,_,rfl,HF.out.1,HF.out.2.1,HF.out.2.2⟩
theorem dU (w0:World) (p:Nat) (ov:Bool) (v:Value) (bs id:List Int) (n:Int) (w:World) (h:PS w0 p ov v bs w) (hS:St id ov bs) (h0:0<=n) (h1:n<=9223372036854775807) :
  Calls prog 99 #[.pointer (some ⟨p,0,none⟩),.int .i64 n] w (gH w0 p v w (id++ak.uB n)):=by
 have hw:IntKind.u64.wrap n=n:=by simp [IntKind.wrap,IntKind.signed,IntKind.bits];omega
 have HR:=aa (VS n w h0 (by omega));have uV:nums (strOfNums (ak.uB n))=ak.uB n:=EG _ (Ci _ n h0 (aI _));have hsz:(strOfNums (ak.uB n)).size<=10:=by rw [Bc];exact ak.gT h0 (by omega)
 have HP:Hid (∀w1,Below w.heap.size w w1->Calls prog 17 #[.pointer (some ⟨p,0,none⟩),.string (strOfNums (ak.uB n))] w1 (gH w0 p v w1 (id++ak.uB n))):=aa λw1 hb=>by
  have:=Bd w0 p ov v bs id (strOfNums (ak.uB n)) w1 (h.on hb) hS (by omega)
  rwa [uV] at this
 clear h hS uV hsz;generalize strOfNums (ak.uB n)=S at *;go_enter func99,ntmps99;go_wp2_with fail;refine HR.out.mono ?_;rintro e w1 ⟨rfl,hb⟩;have HC:=aa (HP.out w1 hb);have aN:Hid (Kept p v w v w1):=aa (Kept.below hb);clear hb HP HR;go_wp2_with fail;refine HC.out.mono ?_;rintro e w2 ⟨df,v1,b1,rfl,h1,s1,k1⟩;have HF:=aa (⟨h1,s1,aN.out.trans k1⟩:PS w0 p df v1 b1 w2/\St (id++ak.uB n) df b1/\Kept p v w v1 w2);clear h1 s1 k1 HC aN;go_wp2;go_end0;exact ⟨_,_,_,rfl,HF.out.1,HF.out.2.1,HF.out.2.2⟩
theorem dS (w0:World) (p:Nat) (ov:Bool) (v:Value) (bs id:List Int) (n:Int) (w:World) (h:PS w0 p ov v bs w) (hS:St id ov bs) (h0:-9223372036854775808<=n) (h1:n<=9223372036854775807) :
  Calls prog 128 #[.pointer (some ⟨p,0,none⟩),.int .i64 n] w (gH w0 p v w (id++ak.sB n)):=by
 have HR:=aa (VT n w h0 (by omega));have uV:nums (strOfNums (ak.sB n))=ak.sB n:=EG _ (F6 _ n (aI _));have hsz:(strOfNums (ak.sB n)).size<=10:=by rw [Bc];exact ak.Ck h0 (by omega)
 have HP:Hid (∀w1,Below w.heap.size w w1->Calls prog 17 #[.pointer (some ⟨p,0,none⟩),.string (strOfNums (ak.sB n))] w1 (gH w0 p v w1 (id++ak.sB n))):=aa λw1 hb=>by
  have:=Bd w0 p ov v bs id (strOfNums (ak.sB n)) w1 (h.on hb) hS (by omega)
  rwa [uV] at this
 have hw:wrap64 n=n:=by unfold wrap64;omega
 clear h hS uV hsz;generalize strOfNums (ak.sB n)=S at *;go_enter func128,ntmps128;go_wp2_with fail;refine HR.out.mono ?_;rintro e w1 ⟨rfl,hb⟩;have HC:=aa (HP.out w1 hb);have aN:Hid (Kept p v w v w1):=aa (Kept.below hb);clear hb HP HR;go_wp2_with fail;refine HC.out.mono ?_;rintro e w2 ⟨df,v1,b1,rfl,h1,s1,k1⟩;have HF:=aa (⟨h1,s1,aN.out.trans k1⟩:PS w0 p df v1 b1 w2/\St (id++ak.sB n) df b1/\Kept p v w v1 w2);clear h1 s1 k1 HC aN;go_wp2;go_end0;exact ⟨_,_,_,rfl,HF.out.1,HF.out.2.1,HF.out.2.2⟩
theorem Ch (w0:World) (p:Nat) (ov:Bool) (v:Value) (bs id:List Int) (s:ByteArray) (w:World) (h:PS w0 p ov v bs w) (hS:St id ov bs) (hs:s.size<=100000000) :
  Calls prog 98 #[.pointer (some ⟨p,0,none⟩),.string s] w (gH w0 p v w (id++sP s)):=by
 have HC:=aa (dU w0 p ov v bs id (s.size:Int) w h hS (by omega) (by omega));have e1:id++sP s=id++ak.uB (s.size:Int)++nums s:=by unfold sP;rw [bf]
 rw [e1];clear h hS e1;generalize hn:s.size=n at *;go_enter func98,ntmps98;go_wp2_with fail;refine HC.out.mono ?_;rintro e w1 ⟨df,v1,b1,rfl,h1,s1,k1⟩;have cz:=aa (Bd w0 p df v1 b1 _ s w1 h1 s1 (by omega));have HK:=aa k1;clear h1 s1 k1 HC;go_wp2_with fail;refine cz.out.mono ?_;rintro e w2 ⟨cQ,v2,b2,rfl,h2,s2,k2⟩;have HF:=aa (⟨h2,s2,HK.out.trans k2⟩:PS w0 p cQ v2 b2 w2/\St (id++ak.uB (n:Int)++nums s) cQ b2/\Kept p v w v2 w2);clear h2 s2 k2 cz HK;go_wp2;go_end0;exact ⟨_,_,_,rfl,HF.out.1,HF.out.2.1,HF.out.2.2⟩
namespace Enc
theorem LR {w:World} {B:Nat} {v:Value} {bs:List Int} (h:w.ownsRow B 5 1 v bs.length (cells bs)):(convert 59 9 v).run prog w=.ok (.string (strOfNums bs)) w:=by
 rcases Nat.eq_zero_or_pos bs.length with h0|h0
 ·have hn:bs = []:=mM.1 h0;subst hn;rcases h.2 with ⟨rfl,_⟩|⟨g,cap,cur,rfl,_,hg,_⟩
  ·exact run_convert_bytes_nil w 59 5 underlying59 underlying5 0 0 9 underlying9
  exact run_convert_bytes_arg w 59 5 underlying59 underlying5 g 0 0 cap [] rfl (λi hi=>by omega) 9 underlying9
 obtain ⟨g,cap,rfl,hcv⟩:=Av h h0;exact hcv
end Enc
namespace Enc
structure uP (w1:World) (p:Nat) (ov:Bool) (v:Value) (bs:List Int) (w:World):Prop where
 base:w1.heap.size<=p
 blk:w.heap[p]?=some (.cells #[v,.bool ov] 72 (0,0))
 own:w.ownsRow w1.heap.size 5 1 v bs.length (cells bs)
 few:bs.length<=524288
 bd:∀x ∈ bs,0<=x/\x<=255
theorem uP.cell {w1 w:World} {p:Nat} {ov:Bool} {v:Value} {bs:List Int} (h:uP w1 p ov v bs w):w.cell? ⟨p,0,none⟩=some v:=by unfold World.cell?;rw [h.blk];rfl
theorem uP.tK {w1 w:World} {p:Nat} {ov:Bool} {v:Value} {bs:List Int} (h:uP w1 p ov v bs w):w.cell? ⟨p,1,none⟩=some (.bool ov):=by unfold World.cell?;rw [h.blk];rfl
theorem uP.slice {w1 w:World} {p:Nat} {ov:Bool} {v:Value} {bs:List Int} (h:uP w1 p ov v bs w):∃o k,v=.slice o bs.length k:=by
 rcases h.own.2 with ⟨rfl,h0⟩|⟨g,cap,cur,rfl,_⟩
 ·rw [h0];exact ⟨none,0,rfl⟩
 exact ⟨_,_,rfl⟩
theorem uP.of {w1 w w' : World} {p q : Nat} {oq : Bool} {v v' u : Value} {bq : List Int} (hq : PS w1 q oq u bq w) (hpq : p < w1.heap.size) (hown : ∀ b, v.ownBlock = some b → b < w1.heap.size) (hk : Kept p v w v' w') : uP w1 q oq u bq w' :=
  ⟨hq.base, by rw [hk.block q hq.lt (by have := hq.base; omega) (λe => by have := hown _ e.symm; have := hq.base; omega)]; exact hq.blk,
   ⟨hq.own.1, hq.own.2.imp (λh => h) λ⟨g, cap, cur, k1, k2, k3, k4⟩ => ⟨g, cap, cur, k1, k2, by rw [hk.block g (kD.1 k3).1 (by omega) (λe => by have := hown _ e.symm; omega)]; exact k3, k4⟩⟩, hq.few, hq.bd⟩
end Enc
theorem LN (w0 w1:World) (p q:Nat) (ov oq:Bool) (v u:Value) (bs id bq iq:List Int) (w:World) (h:PS w0 p ov v bs w) (hS:St id ov bs) (hq:uP w1 q oq u bq w) (hQ:St iq oq bq) (hpq:p<w1.heap.size) :
  Calls prog 96 #[.pointer (some ⟨p,0,none⟩),.pointer (some ⟨q,0,none⟩)] w (gH w0 p v w (id++dW iq)):=by
 have hne:p≠q:=by have:=hq.base;omega
 have kq:=hq.tK;have kp:=h.tK;have kf:=h.fM 1;have uV:nums (strOfNums bq)=bq:=EG _ hq.bd;have LS:(strOfNums bq).size=bq.length:=Bc _;have LU:=hq.few;have hm:=h.mark (ov || oq);have hbl:∀k,k≠p->(w.setCell ⟨p,1,none⟩ (.bool (ov || oq))).heap[k]?=w.heap[k]?:=λk hk=>Below.heap_setCell _ _ _ _ (by show k≠p;exact hk)
 have kQ:(w.setCell ⟨p,1,none⟩ (.bool (ov || oq))).ownsRow w1.heap.size 5 1 u bq.length (cells bq) :=
  ⟨hq.own.1,hq.own.2.imp (λh=>h) λ⟨g,cap,cur,k1,k2,k3,k4⟩=>⟨g,cap,cur,k1,k2,by rw [hbl g (by omega)];exact k3,k4⟩⟩
 have hcv:=LR kQ
 have vT:(w.setCell ⟨p,1,none⟩ (.bool (ov || oq))).cell? ⟨q,0,none⟩=some u:=by
  rw [World.cell?_of_block (a:=⟨q,0,none⟩) (hbl q (λe=>hne e.symm))];exact hq.cell
 have VU:∃EH,St EH (ov || oq) bs/\∀uF bs',bs'.length<=524288->St (EH++sP (strOfNums bq)) uF bs'->St (id++dW iq) uF bs':=by
  have hL:sP (strOfNums bq)=dW bq:=by unfold sP dW;rw [LS,uV]
  rw [hL];rcases hQ with ⟨h1,h2⟩|⟨h1,h2⟩
  ·refine ⟨id,by rw [h1,Bool.or_false];exact hS,λuF bs' _ h=>by rw [<- h2];exact h⟩
  
  refine ⟨id++iq,.inr ⟨by rw [h1,Bool.or_true],by rw [aB];omega⟩,λuF bs' hf h=>?_⟩;rcases h with ⟨h3,h4⟩|⟨h3,_⟩
  ·rw [h4,aB,aB] at hf;omega
  exact .inr ⟨h3,by unfold dW;rw [aB,aB];omega⟩
 obtain ⟨EH,hs2,hend⟩:=VU;have HC:=aa (Ch w0 p (ov || oq) v bs EH (strOfNums bq) _ hm hs2 (by omega));have LV:=aa hend;have aN:Hid (Kept p v w v (w.setCell ⟨p,1,none⟩ (.bool (ov || oq)))):=aa (Kept.mark _);obtain ⟨oU,kU,rfl⟩:=hq.slice;clear h hS hq hQ hm hbl kQ hs2 hend uV LS LU hpq;generalize strOfNums bq=S at *;generalize bq.length=nU at *;cases ov with
 | true =>
  simp only [Bool.true_or] at *;go_enter func96,ntmps96;go_wp2_with fail;refine HC.out.mono ?_;rintro e w2 ⟨cQ,v2,b2,rfl,h2,s2,k2⟩;have HF:=aa (⟨h2,LV.out cQ b2 h2.few s2,aN.out.trans k2⟩:PS w0 p cQ v2 b2 w2/\St (id++dW iq) cQ b2/\Kept p v w v2 w2);clear h2 s2 k2 HC aN;go_wp2;go_end0;exact ⟨_,_,_,rfl,HF.out.1,HF.out.2.1,HF.out.2.2⟩
 | false =>
  simp only [Bool.false_or] at *;go_enter func96,ntmps96;go_wp2_with fail;refine HC.out.mono ?_;rintro e w2 ⟨cQ,v2,b2,rfl,h2,s2,k2⟩;have HF:=aa (⟨h2,LV.out cQ b2 h2.few s2,aN.out.trans k2⟩:PS w0 p cQ v2 b2 w2/\St (id++dW iq) cQ b2/\Kept p v w v2 w2);clear h2 s2 k2 HC aN;go_wp2;go_end0;exact ⟨_,_,_,rfl,HF.out.1,HF.out.2.1,HF.out.2.2⟩
theorem Vu (w0 w1:World) (p q:Nat) (ov oq:Bool) (v u:Value) (bs id bq iq:List Int) (w:World) (h:PS w0 p ov v bs w) (hS:St id ov bs) (hq:PS w1 q oq u bq w) (hQ:St iq oq bq) (hpq:p<w1.heap.size) :
  Calls prog 96 #[.pointer (some ⟨p,0,none⟩),.pointer (some ⟨q,0,none⟩)] w (gH w0 p v w (id++dW iq)) :=
 LN w0 w1 p q ov oq v u bs id bq iq w h hS ⟨hq.base,hq.blk,hq.own,hq.few,hq.bd⟩ hQ hpq
end Go.Proofs.YtmfcojpjpgldhaaGreatDoor
namespace Go.Proofs.YtmfcojpjpgldhaaGreatDoor
open Go.RowKit aA Go.Proofs.Tryz
set_option linter.unusedVariables false
set_option maxHeartbeats 1000000
theorem Wn (op:Int) (w:World) (h:op<=-1):Calls prog 121 #[.int .i64 op] w λe w'=>e=.returned (.int .i64 0)/\w'=w:=by
 have hs:=gI op;have hp:decide (0<(bC.sig op).1)=false:=by exact au (λhp=>by have:=hs.1 hp;omega)
 clear hs;have q0:(op==0)=false:=ah (by omega);have q1:(op==1)=false:=ah (by omega);have jg:(op==15)=false:=ah (by omega);have jh:(op==26)=false:=ah (by omega);have ji:(op==27)=false:=ah (by omega);have jk:(op==63)=false:=ah (by omega);have jl:(op==64)=false:=ah (by omega);have q2:(op==2)=false:=ah (by omega);have q3:(op==3)=false:=ah (by omega);have q4:(op==4)=false:=ah (by omega);have jm:(op==12)=false:=ah (by omega);have jo:(op==13)=false:=ah (by omega);have jq:(op==14)=false:=ah (by omega);have q16:(op==16)=false:=ah (by omega);have jr:(op==17)=false:=ah (by omega);have ju:(op==40)=false:=ah (by omega);have jv:(op==41)=false:=ah (by omega);have jw:(op==65)=false:=ah (by omega);have jy:(op==66)=false:=ah (by omega);have kS:(op==42)=false:=ah (by omega);have kT:(op==43)=false:=ah (by omega);have kW:(op==56)=false:=ah (by omega);have kX:(op==57)=false:=ah (by omega);have kY:(op==67)=false:=ah (by omega);have kZ:(op==68)=false:=ah (by omega);have r32:decide (32<=op/\op<=36)=false:=au (by omega);have R32:=ag r32;clear r32;have fQ:decide (44<=op/\op<=55)=false:=au (by omega);have kI:=ag fQ;clear fQ;have fR:decide (58<=op/\op<=62)=false:=au (by omega);have lh:=ag fR;clear fR;have fS:decide (91<=op/\op<=102)=false:=au (by omega);have lK:=ag fS;clear fS;have fU:decide (139<=op/\op<=166)=false:=au (by omega);have lV:=ag fU;clear fU;have fV:decide (168<=op/\op<=171)=false:=au (by omega);have mr:=ag fV;clear fV;have fW:decide (174<=op/\op<=191)=false:=au (by omega);have mL:=ag fW;clear fW;clear h;go_enter func121,ntmps121;go_wp2_with fail;refine (gL _ _).mono ?_;rintro e u ⟨rfl,rfl⟩;generalize bC.sig op=t at *;go_wp2_with fail;refine (bB _ _ _ _).mono ?_;rintro e u ⟨rfl,rfl⟩;rw [R32.out];go_wp2_with fail;refine (bB _ _ _ _).mono ?_;rintro e u ⟨rfl,rfl⟩;rw [kI.out];go_wp2_with fail;refine (bB _ _ _ _).mono ?_;rintro e u ⟨rfl,rfl⟩;rw [lh.out];go_wp2_with fail;refine (bB _ _ _ _).mono ?_;rintro e u ⟨rfl,rfl⟩;rw [lK.out];go_wp2_with fail;refine (bB _ _ _ _).mono ?_;rintro e u ⟨rfl,rfl⟩;rw [lV.out];go_wp2_with fail;refine (bB _ _ _ _).mono ?_;rintro e u ⟨rfl,rfl⟩;rw [mr.out];go_wp2_with fail;refine (bB _ _ _ _).mono ?_;rintro e u ⟨rfl,rfl⟩;rw [mL.out];go_wp2;go_ret;exact ⟨rfl,rfl⟩
theorem Wo (op:Int) (w:World) (h:0<=op/\op<=0):Calls prog 121 #[.int .i64 op] w λe w'=>e=.returned (.int .i64 1)/\w'=w:=by
 have hs:=gI op;have hp:decide (0<(bC.sig op).1)=false:=by exact au (λhp=>by have:=hs.1 hp;omega)
 clear hs;obtain rfl:op=0:=by omega
 clear h;go_enter func121,ntmps121;go_wp2_with fail;refine (gL _ _).mono ?_;rintro e u ⟨rfl,rfl⟩;generalize bC.sig 0=t at *;go_wp2;go_ret;exact ⟨rfl,rfl⟩
theorem Wp (op:Int) (w:World) (h:1<=op/\op<=1):Calls prog 121 #[.int .i64 op] w λe w'=>e=.returned (.int .i64 1)/\w'=w:=by
 have hs:=gI op;have hp:decide (0<(bC.sig op).1)=false:=by exact au (λhp=>by have:=hs.1 hp;omega)
 clear hs;obtain rfl:op=1:=by omega
 clear h;go_enter func121,ntmps121;go_wp2_with fail;refine (gL _ _).mono ?_;rintro e u ⟨rfl,rfl⟩;generalize bC.sig 1=t at *;go_wp2;go_ret;exact ⟨rfl,rfl⟩
theorem Wq (op:Int) (w:World) (h:2<=op/\op<=2):Calls prog 121 #[.int .i64 op] w λe w'=>e=.returned (.int .i64 2)/\w'=w:=by
 have hs:=gI op;have hp:decide (0<(bC.sig op).1)=false:=by exact au (λhp=>by have:=hs.1 hp;omega)
 clear hs;obtain rfl:op=2:=by omega
 clear h;go_enter func121,ntmps121;go_wp2_with fail;refine (gL _ _).mono ?_;rintro e u ⟨rfl,rfl⟩;generalize bC.sig 2=t at *;go_wp2;go_ret;exact ⟨rfl,rfl⟩
theorem Ws (op:Int) (w:World) (h:3<=op/\op<=3):Calls prog 121 #[.int .i64 op] w λe w'=>e=.returned (.int .i64 2)/\w'=w:=by
 have hs:=gI op;have hp:decide (0<(bC.sig op).1)=false:=by exact au (λhp=>by have:=hs.1 hp;omega)
 clear hs;obtain rfl:op=3:=by omega
 clear h;go_enter func121,ntmps121;go_wp2_with fail;refine (gL _ _).mono ?_;rintro e u ⟨rfl,rfl⟩;generalize bC.sig 3=t at *;go_wp2;go_ret;exact ⟨rfl,rfl⟩
theorem Wt (op:Int) (w:World) (h:4<=op/\op<=4):Calls prog 121 #[.int .i64 op] w λe w'=>e=.returned (.int .i64 3)/\w'=w:=by
 have hs:=gI op;have hp:decide (0<(bC.sig op).1)=false:=by exact au (λhp=>by have:=hs.1 hp;omega)
 clear hs;obtain rfl:op=4:=by omega
 clear h;go_enter func121,ntmps121;go_wp2_with fail;refine (gL _ _).mono ?_;rintro e u ⟨rfl,rfl⟩;generalize bC.sig 4=t at *;go_wp2;go_ret;exact ⟨rfl,rfl⟩
theorem Wu (op:Int) (w:World) (h:5<=op/\op<=11):Calls prog 121 #[.int .i64 op] w λe w'=>e=.returned (.int .i64 0)/\w'=w:=by
 have hs:=gI op;have hp:decide (0<(bC.sig op).1)=false:=by exact au (λhp=>by have:=hs.1 hp;omega)
 clear hs;have q0:(op==0)=false:=ah (by omega);have q1:(op==1)=false:=ah (by omega);have jg:(op==15)=false:=ah (by omega);have jh:(op==26)=false:=ah (by omega);have ji:(op==27)=false:=ah (by omega);have jk:(op==63)=false:=ah (by omega);have jl:(op==64)=false:=ah (by omega);have q2:(op==2)=false:=ah (by omega);have q3:(op==3)=false:=ah (by omega);have q4:(op==4)=false:=ah (by omega);have jm:(op==12)=false:=ah (by omega);have jo:(op==13)=false:=ah (by omega);have jq:(op==14)=false:=ah (by omega);have q16:(op==16)=false:=ah (by omega);have jr:(op==17)=false:=ah (by omega);have ju:(op==40)=false:=ah (by omega);have jv:(op==41)=false:=ah (by omega);have jw:(op==65)=false:=ah (by omega);have jy:(op==66)=false:=ah (by omega);have kS:(op==42)=false:=ah (by omega);have kT:(op==43)=false:=ah (by omega);have kW:(op==56)=false:=ah (by omega);have kX:(op==57)=false:=ah (by omega);have kY:(op==67)=false:=ah (by omega);have kZ:(op==68)=false:=ah (by omega);have r32:decide (32<=op/\op<=36)=false:=au (by omega);have R32:=ag r32;clear r32;have fQ:decide (44<=op/\op<=55)=false:=au (by omega);have kI:=ag fQ;clear fQ;have fR:decide (58<=op/\op<=62)=false:=au (by omega);have lh:=ag fR;clear fR;have fS:decide (91<=op/\op<=102)=false:=au (by omega);have lK:=ag fS;clear fS;have fU:decide (139<=op/\op<=166)=false:=au (by omega);have lV:=ag fU;clear fU;have fV:decide (168<=op/\op<=171)=false:=au (by omega);have mr:=ag fV;clear fV;have fW:decide (174<=op/\op<=191)=false:=au (by omega);have mL:=ag fW;clear fW;clear h;go_enter func121,ntmps121;go_wp2_with fail;refine (gL _ _).mono ?_;rintro e u ⟨rfl,rfl⟩;generalize bC.sig op=t at *;go_wp2_with fail;refine (bB _ _ _ _).mono ?_;rintro e u ⟨rfl,rfl⟩;rw [R32.out];go_wp2_with fail;refine (bB _ _ _ _).mono ?_;rintro e u ⟨rfl,rfl⟩;rw [kI.out];go_wp2_with fail;refine (bB _ _ _ _).mono ?_;rintro e u ⟨rfl,rfl⟩;rw [lh.out];go_wp2_with fail;refine (bB _ _ _ _).mono ?_;rintro e u ⟨rfl,rfl⟩;rw [lK.out];go_wp2_with fail;refine (bB _ _ _ _).mono ?_;rintro e u ⟨rfl,rfl⟩;rw [lV.out];go_wp2_with fail;refine (bB _ _ _ _).mono ?_;rintro e u ⟨rfl,rfl⟩;rw [mr.out];go_wp2_with fail;refine (bB _ _ _ _).mono ?_;rintro e u ⟨rfl,rfl⟩;rw [mL.out];go_wp2;go_ret;exact ⟨rfl,rfl⟩
theorem Wv (op:Int) (w:World) (h:12<=op/\op<=12):Calls prog 121 #[.int .i64 op] w λe w'=>e=.returned (.int .i64 4)/\w'=w:=by
 have hs:=gI op;have hp:decide (0<(bC.sig op).1)=false:=by exact au (λhp=>by have:=hs.1 hp;omega)
 clear hs;obtain rfl:op=12:=by omega
 clear h;go_enter func121,ntmps121;go_wp2_with fail;refine (gL _ _).mono ?_;rintro e u ⟨rfl,rfl⟩;generalize bC.sig 12=t at *;go_wp2;go_ret;exact ⟨rfl,rfl⟩
theorem Ww (op:Int) (w:World) (h:13<=op/\op<=13):Calls prog 121 #[.int .i64 op] w λe w'=>e=.returned (.int .i64 4)/\w'=w:=by
 have hs:=gI op;have hp:decide (0<(bC.sig op).1)=false:=by exact au (λhp=>by have:=hs.1 hp;omega)
 clear hs;obtain rfl:op=13:=by omega
 clear h;go_enter func121,ntmps121;go_wp2_with fail;refine (gL _ _).mono ?_;rintro e u ⟨rfl,rfl⟩;generalize bC.sig 13=t at *;go_wp2;go_ret;exact ⟨rfl,rfl⟩
theorem Wx (op:Int) (w:World) (h:14<=op/\op<=14):Calls prog 121 #[.int .i64 op] w λe w'=>e=.returned (.int .i64 5)/\w'=w:=by
 have hs:=gI op;have hp:decide (0<(bC.sig op).1)=false:=by exact au (λhp=>by have:=hs.1 hp;omega)
 clear hs;obtain rfl:op=14:=by omega
 clear h;go_enter func121,ntmps121;go_wp2_with fail;refine (gL _ _).mono ?_;rintro e u ⟨rfl,rfl⟩;generalize bC.sig 14=t at *;go_wp2;go_ret;exact ⟨rfl,rfl⟩
theorem Wy (op:Int) (w:World) (h:15<=op/\op<=15):Calls prog 121 #[.int .i64 op] w λe w'=>e=.returned (.int .i64 1)/\w'=w:=by
 have hs:=gI op;have hp:decide (0<(bC.sig op).1)=false:=by exact au (λhp=>by have:=hs.1 hp;omega)
 clear hs;obtain rfl:op=15:=by omega
 clear h;go_enter func121,ntmps121;go_wp2_with fail;refine (gL _ _).mono ?_;rintro e u ⟨rfl,rfl⟩;generalize bC.sig 15=t at *;go_wp2;go_ret;exact ⟨rfl,rfl⟩
theorem Wz (op:Int) (w:World) (h:16<=op/\op<=16):Calls prog 121 #[.int .i64 op] w λe w'=>e=.returned (.int .i64 6)/\w'=w:=by
 have hs:=gI op;have hp:decide (0<(bC.sig op).1)=false:=by exact au (λhp=>by have:=hs.1 hp;omega)
 clear hs;obtain rfl:op=16:=by omega
 clear h;go_enter func121,ntmps121;go_wp2_with fail;refine (gL _ _).mono ?_;rintro e u ⟨rfl,rfl⟩;generalize bC.sig 16=t at *;go_wp2;go_ret;exact ⟨rfl,rfl⟩
theorem WA (op:Int) (w:World) (h:17<=op/\op<=17):Calls prog 121 #[.int .i64 op] w λe w'=>e=.returned (.int .i64 7)/\w'=w:=by
 have hs:=gI op;have hp:decide (0<(bC.sig op).1)=false:=by exact au (λhp=>by have:=hs.1 hp;omega)
 clear hs;obtain rfl:op=17:=by omega
 clear h;go_enter func121,ntmps121;go_wp2_with fail;refine (gL _ _).mono ?_;rintro e u ⟨rfl,rfl⟩;generalize bC.sig 17=t at *;go_wp2_with fail;refine (bB _ _ _ _).mono ?_;rintro e u ⟨rfl,rfl⟩;rw [show decide ((32:Int)<=17/\(17:Int)<=36)=false by decide];go_wp2;go_ret;exact ⟨rfl,rfl⟩
theorem WB (op:Int) (w:World) (h:18<=op/\op<=25):Calls prog 121 #[.int .i64 op] w λe w'=>e=.returned (.int .i64 0)/\w'=w:=by
 have hs:=gI op;have hp:decide (0<(bC.sig op).1)=false:=by exact au (λhp=>by have:=hs.1 hp;omega)
 clear hs;have q0:(op==0)=false:=ah (by omega);have q1:(op==1)=false:=ah (by omega);have jg:(op==15)=false:=ah (by omega);have jh:(op==26)=false:=ah (by omega);have ji:(op==27)=false:=ah (by omega);have jk:(op==63)=false:=ah (by omega);have jl:(op==64)=false:=ah (by omega);have q2:(op==2)=false:=ah (by omega);have q3:(op==3)=false:=ah (by omega);have q4:(op==4)=false:=ah (by omega);have jm:(op==12)=false:=ah (by omega);have jo:(op==13)=false:=ah (by omega);have jq:(op==14)=false:=ah (by omega);have q16:(op==16)=false:=ah (by omega);have jr:(op==17)=false:=ah (by omega);have ju:(op==40)=false:=ah (by omega);have jv:(op==41)=false:=ah (by omega);have jw:(op==65)=false:=ah (by omega);have jy:(op==66)=false:=ah (by omega);have kS:(op==42)=false:=ah (by omega);have kT:(op==43)=false:=ah (by omega);have kW:(op==56)=false:=ah (by omega);have kX:(op==57)=false:=ah (by omega);have kY:(op==67)=false:=ah (by omega);have kZ:(op==68)=false:=ah (by omega);have r32:decide (32<=op/\op<=36)=false:=au (by omega);have R32:=ag r32;clear r32;have fQ:decide (44<=op/\op<=55)=false:=au (by omega);have kI:=ag fQ;clear fQ;have fR:decide (58<=op/\op<=62)=false:=au (by omega);have lh:=ag fR;clear fR;have fS:decide (91<=op/\op<=102)=false:=au (by omega);have lK:=ag fS;clear fS;have fU:decide (139<=op/\op<=166)=false:=au (by omega);have lV:=ag fU;clear fU;have fV:decide (168<=op/\op<=171)=false:=au (by omega);have mr:=ag fV;clear fV;have fW:decide (174<=op/\op<=191)=false:=au (by omega);have mL:=ag fW;clear fW;clear h;go_enter func121,ntmps121;go_wp2_with fail;refine (gL _ _).mono ?_;rintro e u ⟨rfl,rfl⟩;generalize bC.sig op=t at *;go_wp2_with fail;refine (bB _ _ _ _).mono ?_;rintro e u ⟨rfl,rfl⟩;rw [R32.out];go_wp2_with fail;refine (bB _ _ _ _).mono ?_;rintro e u ⟨rfl,rfl⟩;rw [kI.out];go_wp2_with fail;refine (bB _ _ _ _).mono ?_;rintro e u ⟨rfl,rfl⟩;rw [lh.out];go_wp2_with fail;refine (bB _ _ _ _).mono ?_;rintro e u ⟨rfl,rfl⟩;rw [lK.out];go_wp2_with fail;refine (bB _ _ _ _).mono ?_;rintro e u ⟨rfl,rfl⟩;rw [lV.out];go_wp2_with fail;refine (bB _ _ _ _).mono ?_;rintro e u ⟨rfl,rfl⟩;rw [mr.out];go_wp2_with fail;refine (bB _ _ _ _).mono ?_;rintro e u ⟨rfl,rfl⟩;rw [mL.out];go_wp2;go_ret;exact ⟨rfl,rfl⟩
end Go.Proofs.YtmfcojpjpgldhaaGreatDoor
