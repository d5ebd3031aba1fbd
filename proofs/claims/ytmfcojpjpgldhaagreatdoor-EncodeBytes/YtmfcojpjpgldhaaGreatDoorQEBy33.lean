/- Texts that the claim needs. -/
import Derived.Test.YtmfcojpjpgldhaaGreatDoorQEBy30
namespace Go.Proofs.YtmfcojpjpgldhaaGreatDoor
open Go.RowKit aA Enc Go.Lib Go.Proofs.Tryz
set_option linter.unusedVariables false
set_option maxRecDepth 100000
set_option maxHeartbeats 4000000
namespace Enc
def vo (w0:World) (p:Nat) (c:Nat->Value) (F:FuncId) (n:Nat) (f:Nat->List Int):Prop:=∀(i:Nat) (v:Value) (bs:List Int) (w:World),i<n->WS w0 p c v bs w->bs.length+(f i).length<=38900000000000 ->
 Calls prog F #[.pointer (some ⟨p,0,none⟩),.int .i64 (i:Nat)] w (DoesA w0 p c v w bs (f i))
def aH (f:Nat->List Int):Nat->List Int
 | 0=>[]
 | k+1=>aH f k++f k
theorem lW (f : Nat → List Int) : ∀ (k n : Nat), k ≤ n → (aH f k).length ≤ (aH f n).length
  | k, 0, h => by obtain rfl : k = 0 := by omega
                  exact aI _
  | k, n + 1, h => by
    rcases Nat.lt_or_eq_of_le h with h1 | rfl
    · have := lW f k n (by omega)
      show _ ≤ (aH f n ++ f n).length;rw [aB]; omega
    exact aI _
def gV (id:Int) (n:Nat) (f:Nat->List Int):List Int:=(if id=8 then [] else ak.uB (n:Int))++aH f n
end Enc
theorem WO (w0:World) (p:Nat) (c:Nat->Value) (v:Value) (bs:List Int) (n:Nat) (f:Nat->List Int) (qS qW:Nat) (w:World) (h:WS w0 p c v bs w) (hE:vo w0 p c 34 n f)
  (hS:Bx w qS 66 #[.int .i64 1,.int .i64 n,.func (.func 34) #[.pointer (some ⟨p,0,none⟩)] #[]]) (hW:Bx w qW 58 #[.pointer (some ⟨p,0,none⟩)]) (n1:qS≠p) (n2:qW≠p) (n3:some qS≠v.ownBlock) (n4:some qW≠v.ownBlock)
  (hnn:n<=1000000) (hlen:bs.length+(gV 1 n f).length<=38900000000000) :
  Calls prog 47 #[.pointer (some ⟨qS,0,none⟩),.pointer (some ⟨qW,0,none⟩)] w (DoesA w0 p c v w bs (gV 1 n f)):=by
 have hlen':bs.length+(ak.uB (n:Int)++aH f n).length<=38900000000000:=hlen;have k0:=hS.cell 0 _ rfl;have k1:=hS.cell 1 _ rfl;have k2:=hS.cell 2 _ rfl;have kw:=hW.cell 0 _ rfl;have HE:=aa hE;have HH:=aa (⟨hS,hW,n1,n2,n3,n4⟩:Bx w qS 66 #[.int .i64 1,.int .i64 n,.func (.func 34) #[.pointer (some ⟨p,0,none⟩)] #[]]/\Bx w qW 58 #[.pointer (some ⟨p,0,none⟩)]/\qS≠p/\qW≠p/\some qS≠v.ownBlock/\some qW≠v.ownBlock);have HLEN:=aa hlen';show Calls prog 47 #[.pointer (some ⟨qS,0,none⟩),.pointer (some ⟨qW,0,none⟩)] w (DoesA w0 p c v w bs (ak.uB (n:Int)++aH f n));have ma:=ak.gT (n:=(n:Int)) (by omega) (by omega);have iY:=aa (wU w0 p c v bs (n:Int) w h (by omega) (by omega) (by rw [aB] at hlen';omega));clear h hE hS hW n1 n2 n3 n4 hlen hlen';go_enter func47,ntmps47;go_wp2_with fail;refine iY.out.mono ?_;rintro e w1 ⟨v1,rfl,hh,kk⟩;have aT:=aa hh;have aN:=aa kk;have eO:Hid (So bs (ak.uB (n:Int)++aH f 0) (bs++ak.uB (n:Int))):=aa (by have h3:=(So.refl bs).app (ak.uB (n:Int));rw [ed] at h3;rw [show aH f 0 = [] from rfl,List.append_nil];exact h3);clear hh kk iY k0 k1 k2 kw;go_wp2_with fail;go_loopw [2] (λi wr=>∃(j:Nat) (v3:Value) (b3:List Int),j<=n/\i=.int .i64 j/\Hid (WS w0 p c v3 b3 wr)/\Hid (Kept p v w v3 wr)/\Hid (So bs (ak.uB (n:Int)++aH f j) b3)) (λi _=>n-(Lib.intOf i).toNat)
 case atStart=>exact ⟨0,_,_,by omega,rfl,aT,aN,eO⟩
 case round =>
  clear aT aN eO;obtain ⟨j,v3,b3,hj,rfl,aM,ba,aR⟩:=hrel;obtain ⟨bS,_⟩:=ba.out.bx HH.out.1 HH.out.2.2.1 HH.out.2.2.2.2.1;obtain ⟨bW,_⟩:=ba.out.bx HH.out.2.1 HH.out.2.2.2.1 HH.out.2.2.2.2.2;have k1:=bS.cell 1 _ rfl;have k2:=bS.cell 2 _ rfl;have kw:=bW.cell 0 _ rfl;clear bS bW;have vZ:(ak.uB (n:Int)++aH f j).length<=(ak.uB (n:Int)++aH f n).length:=by rw [aB,aB];have:=lW f j n hj;omega
  have hb3:b3.length<=38900000000000:=by have h1:=aR.out.2;have h2:=HLEN.out;omega
  by_cases hgo:j<n
  ·have HC:=aa (rE w0 p c v3 b3 wr aM.out (by omega));go_wp2_with fail;refine HC.out.mono ?_;rintro e w3 ⟨rfl,rfl⟩;clear HC;by_cases hfull:262144<b3.length
   ·rw [aC hfull];have HF:Hid (So bs (ak.uB (n:Int)++aH f n) b3):=aa ⟨.inr ⟨hfull,by have h1:=aR.out.2;omega,aR.out.1.le⟩,by have h1:=aR.out.2;omega⟩;clear hfull;go_wp2;go_end0;exact ⟨_,_,rfl,aM.out,ba.out,HF.out.1,HF.out.2⟩
   rw [au hfull];clear hfull
   have HC:=aa (HE.out j v3 b3 w3 hgo aM.out (by
    have h1:=aR.out.2;have h2:=lW f (j+1) n (by omega);have h3:=HLEN.out;rw [show aH f (j+1)=aH f j++f j from rfl] at h2;simp only [aB] at h1 h2 h3;omega))
   go_wp2_with fail;refine HC.out.mono ?_;rintro e w4 ⟨v4,b4,rfl,hh,kk,ha,hl⟩;have dP:=aa hh;have bO:=aa (ba.out.trans kk);have iR:Hid (So bs (ak.uB (n:Int)++aH f (j+1)) b4):=aa (by rw [show aH f (j+1)=aH f j++f j from rfl,<- bf];exact aR.out.adds ha hl);clear hh kk ha hl HC aM ba aR k1 k2 kw;go_wp2;go_roundw
   case rel=>exact ⟨j+1,v4,b4,by omega,by go_num,dP,bO,iR⟩
   case measure=>simp [Lib.intOf];omega
  obtain rfl:n=j:=by omega
  go_wp2;go_end0;exact ⟨_,_,rfl,aM.out,ba.out,aR.out.1,aR.out.2⟩
theorem WT (w0:World) (p:Nat) (c:Nat->Value) (v:Value) (bs:List Int) (n:Nat) (f:Nat->List Int) (qS qW:Nat) (w:World) (h:WS w0 p c v bs w) (hE:vo w0 p c 35 n f)
  (hS:Bx w qS 66 #[.int .i64 2,.int .i64 n,.func (.func 35) #[.pointer (some ⟨p,0,none⟩)] #[]]) (hW:Bx w qW 58 #[.pointer (some ⟨p,0,none⟩)]) (n1:qS≠p) (n2:qW≠p) (n3:some qS≠v.ownBlock) (n4:some qW≠v.ownBlock)
  (hnn:n<=1000000) (hlen:bs.length+(gV 2 n f).length<=38900000000000) :
  Calls prog 47 #[.pointer (some ⟨qS,0,none⟩),.pointer (some ⟨qW,0,none⟩)] w (DoesA w0 p c v w bs (gV 2 n f)):=by
 have hlen':bs.length+(ak.uB (n:Int)++aH f n).length<=38900000000000:=hlen;have k0:=hS.cell 0 _ rfl;have k1:=hS.cell 1 _ rfl;have k2:=hS.cell 2 _ rfl;have kw:=hW.cell 0 _ rfl;have HE:=aa hE;have HH:=aa (⟨hS,hW,n1,n2,n3,n4⟩:Bx w qS 66 #[.int .i64 2,.int .i64 n,.func (.func 35) #[.pointer (some ⟨p,0,none⟩)] #[]]/\Bx w qW 58 #[.pointer (some ⟨p,0,none⟩)]/\qS≠p/\qW≠p/\some qS≠v.ownBlock/\some qW≠v.ownBlock);have HLEN:=aa hlen';show Calls prog 47 #[.pointer (some ⟨qS,0,none⟩),.pointer (some ⟨qW,0,none⟩)] w (DoesA w0 p c v w bs (ak.uB (n:Int)++aH f n));have ma:=ak.gT (n:=(n:Int)) (by omega) (by omega);have iY:=aa (wU w0 p c v bs (n:Int) w h (by omega) (by omega) (by rw [aB] at hlen';omega));clear h hE hS hW n1 n2 n3 n4 hlen hlen';go_enter func47,ntmps47;go_wp2_with fail;refine iY.out.mono ?_;rintro e w1 ⟨v1,rfl,hh,kk⟩;have aT:=aa hh;have aN:=aa kk;have eO:Hid (So bs (ak.uB (n:Int)++aH f 0) (bs++ak.uB (n:Int))):=aa (by have h3:=(So.refl bs).app (ak.uB (n:Int));rw [ed] at h3;rw [show aH f 0 = [] from rfl,List.append_nil];exact h3);clear hh kk iY k0 k1 k2 kw;go_wp2_with fail;go_loopw [2] (λi wr=>∃(j:Nat) (v3:Value) (b3:List Int),j<=n/\i=.int .i64 j/\Hid (WS w0 p c v3 b3 wr)/\Hid (Kept p v w v3 wr)/\Hid (So bs (ak.uB (n:Int)++aH f j) b3)) (λi _=>n-(Lib.intOf i).toNat)
 case atStart=>exact ⟨0,_,_,by omega,rfl,aT,aN,eO⟩
 case round =>
  clear aT aN eO;obtain ⟨j,v3,b3,hj,rfl,aM,ba,aR⟩:=hrel;obtain ⟨bS,_⟩:=ba.out.bx HH.out.1 HH.out.2.2.1 HH.out.2.2.2.2.1;obtain ⟨bW,_⟩:=ba.out.bx HH.out.2.1 HH.out.2.2.2.1 HH.out.2.2.2.2.2;have k1:=bS.cell 1 _ rfl;have k2:=bS.cell 2 _ rfl;have kw:=bW.cell 0 _ rfl;clear bS bW;have vZ:(ak.uB (n:Int)++aH f j).length<=(ak.uB (n:Int)++aH f n).length:=by rw [aB,aB];have:=lW f j n hj;omega
  have hb3:b3.length<=38900000000000:=by have h1:=aR.out.2;have h2:=HLEN.out;omega
  by_cases hgo:j<n
  ·have HC:=aa (rE w0 p c v3 b3 wr aM.out (by omega));go_wp2_with fail;refine HC.out.mono ?_;rintro e w3 ⟨rfl,rfl⟩;clear HC;by_cases hfull:262144<b3.length
   ·rw [aC hfull];have HF:Hid (So bs (ak.uB (n:Int)++aH f n) b3):=aa ⟨.inr ⟨hfull,by have h1:=aR.out.2;omega,aR.out.1.le⟩,by have h1:=aR.out.2;omega⟩;clear hfull;go_wp2;go_end0;exact ⟨_,_,rfl,aM.out,ba.out,HF.out.1,HF.out.2⟩
   rw [au hfull];clear hfull
   have HC:=aa (HE.out j v3 b3 w3 hgo aM.out (by
    have h1:=aR.out.2;have h2:=lW f (j+1) n (by omega);have h3:=HLEN.out;rw [show aH f (j+1)=aH f j++f j from rfl] at h2;simp only [aB] at h1 h2 h3;omega))
   go_wp2_with fail;refine HC.out.mono ?_;rintro e w4 ⟨v4,b4,rfl,hh,kk,ha,hl⟩;have dP:=aa hh;have bO:=aa (ba.out.trans kk);have iR:Hid (So bs (ak.uB (n:Int)++aH f (j+1)) b4):=aa (by rw [show aH f (j+1)=aH f j++f j from rfl,<- bf];exact aR.out.adds ha hl);clear hh kk ha hl HC aM ba aR k1 k2 kw;go_wp2;go_roundw
   case rel=>exact ⟨j+1,v4,b4,by omega,by go_num,dP,bO,iR⟩
   case measure=>simp [Lib.intOf];omega
  obtain rfl:n=j:=by omega
  go_wp2;go_end0;exact ⟨_,_,rfl,aM.out,ba.out,aR.out.1,aR.out.2⟩
theorem WW (w0:World) (p:Nat) (c:Nat->Value) (v:Value) (bs:List Int) (n:Nat) (f:Nat->List Int) (qS qW:Nat) (w:World) (h:WS w0 p c v bs w) (hE:vo w0 p c 36 n f)
  (hS:Bx w qS 66 #[.int .i64 3,.int .i64 n,.func (.func 36) #[.pointer (some ⟨p,0,none⟩)] #[]]) (hW:Bx w qW 58 #[.pointer (some ⟨p,0,none⟩)]) (n1:qS≠p) (n2:qW≠p) (n3:some qS≠v.ownBlock) (n4:some qW≠v.ownBlock)
  (hnn:n<=1000000) (hlen:bs.length+(gV 3 n f).length<=38900000000000) :
  Calls prog 47 #[.pointer (some ⟨qS,0,none⟩),.pointer (some ⟨qW,0,none⟩)] w (DoesA w0 p c v w bs (gV 3 n f)):=by
 have hlen':bs.length+(ak.uB (n:Int)++aH f n).length<=38900000000000:=hlen;have k0:=hS.cell 0 _ rfl;have k1:=hS.cell 1 _ rfl;have k2:=hS.cell 2 _ rfl;have kw:=hW.cell 0 _ rfl;have HE:=aa hE;have HH:=aa (⟨hS,hW,n1,n2,n3,n4⟩:Bx w qS 66 #[.int .i64 3,.int .i64 n,.func (.func 36) #[.pointer (some ⟨p,0,none⟩)] #[]]/\Bx w qW 58 #[.pointer (some ⟨p,0,none⟩)]/\qS≠p/\qW≠p/\some qS≠v.ownBlock/\some qW≠v.ownBlock);have HLEN:=aa hlen';show Calls prog 47 #[.pointer (some ⟨qS,0,none⟩),.pointer (some ⟨qW,0,none⟩)] w (DoesA w0 p c v w bs (ak.uB (n:Int)++aH f n));have ma:=ak.gT (n:=(n:Int)) (by omega) (by omega);have iY:=aa (wU w0 p c v bs (n:Int) w h (by omega) (by omega) (by rw [aB] at hlen';omega));clear h hE hS hW n1 n2 n3 n4 hlen hlen';go_enter func47,ntmps47;go_wp2_with fail;refine iY.out.mono ?_;rintro e w1 ⟨v1,rfl,hh,kk⟩;have aT:=aa hh;have aN:=aa kk;have eO:Hid (So bs (ak.uB (n:Int)++aH f 0) (bs++ak.uB (n:Int))):=aa (by have h3:=(So.refl bs).app (ak.uB (n:Int));rw [ed] at h3;rw [show aH f 0 = [] from rfl,List.append_nil];exact h3);clear hh kk iY k0 k1 k2 kw;go_wp2_with fail;go_loopw [2] (λi wr=>∃(j:Nat) (v3:Value) (b3:List Int),j<=n/\i=.int .i64 j/\Hid (WS w0 p c v3 b3 wr)/\Hid (Kept p v w v3 wr)/\Hid (So bs (ak.uB (n:Int)++aH f j) b3)) (λi _=>n-(Lib.intOf i).toNat)
 case atStart=>exact ⟨0,_,_,by omega,rfl,aT,aN,eO⟩
 case round =>
  clear aT aN eO;obtain ⟨j,v3,b3,hj,rfl,aM,ba,aR⟩:=hrel;obtain ⟨bS,_⟩:=ba.out.bx HH.out.1 HH.out.2.2.1 HH.out.2.2.2.2.1;obtain ⟨bW,_⟩:=ba.out.bx HH.out.2.1 HH.out.2.2.2.1 HH.out.2.2.2.2.2;have k1:=bS.cell 1 _ rfl;have k2:=bS.cell 2 _ rfl;have kw:=bW.cell 0 _ rfl;clear bS bW;have vZ:(ak.uB (n:Int)++aH f j).length<=(ak.uB (n:Int)++aH f n).length:=by rw [aB,aB];have:=lW f j n hj;omega
  have hb3:b3.length<=38900000000000:=by have h1:=aR.out.2;have h2:=HLEN.out;omega
  by_cases hgo:j<n
  ·have HC:=aa (rE w0 p c v3 b3 wr aM.out (by omega));go_wp2_with fail;refine HC.out.mono ?_;rintro e w3 ⟨rfl,rfl⟩;clear HC;by_cases hfull:262144<b3.length
   ·rw [aC hfull];have HF:Hid (So bs (ak.uB (n:Int)++aH f n) b3):=aa ⟨.inr ⟨hfull,by have h1:=aR.out.2;omega,aR.out.1.le⟩,by have h1:=aR.out.2;omega⟩;clear hfull;go_wp2;go_end0;exact ⟨_,_,rfl,aM.out,ba.out,HF.out.1,HF.out.2⟩
   rw [au hfull];clear hfull
   have HC:=aa (HE.out j v3 b3 w3 hgo aM.out (by
    have h1:=aR.out.2;have h2:=lW f (j+1) n (by omega);have h3:=HLEN.out;rw [show aH f (j+1)=aH f j++f j from rfl] at h2;simp only [aB] at h1 h2 h3;omega))
   go_wp2_with fail;refine HC.out.mono ?_;rintro e w4 ⟨v4,b4,rfl,hh,kk,ha,hl⟩;have dP:=aa hh;have bO:=aa (ba.out.trans kk);have iR:Hid (So bs (ak.uB (n:Int)++aH f (j+1)) b4):=aa (by rw [show aH f (j+1)=aH f j++f j from rfl,<- bf];exact aR.out.adds ha hl);clear hh kk ha hl HC aM ba aR k1 k2 kw;go_wp2;go_roundw
   case rel=>exact ⟨j+1,v4,b4,by omega,by go_num,dP,bO,iR⟩
   case measure=>simp [Lib.intOf];omega
  obtain rfl:n=j:=by omega
  go_wp2;go_end0;exact ⟨_,_,rfl,aM.out,ba.out,aR.out.1,aR.out.2⟩
theorem WZ (w0:World) (p:Nat) (c:Nat->Value) (v:Value) (bs:List Int) (n:Nat) (f:Nat->List Int) (qS qW:Nat) (w:World) (h:WS w0 p c v bs w) (hE:vo w0 p c 37 n f)
  (hS:Bx w qS 66 #[.int .i64 4,.int .i64 n,.func (.func 37) #[.pointer (some ⟨p,0,none⟩)] #[]]) (hW:Bx w qW 58 #[.pointer (some ⟨p,0,none⟩)]) (n1:qS≠p) (n2:qW≠p) (n3:some qS≠v.ownBlock) (n4:some qW≠v.ownBlock)
  (hnn:n<=1000000) (hlen:bs.length+(gV 4 n f).length<=38900000000000) :
  Calls prog 47 #[.pointer (some ⟨qS,0,none⟩),.pointer (some ⟨qW,0,none⟩)] w (DoesA w0 p c v w bs (gV 4 n f)):=by
 have hlen':bs.length+(ak.uB (n:Int)++aH f n).length<=38900000000000:=hlen;have k0:=hS.cell 0 _ rfl;have k1:=hS.cell 1 _ rfl;have k2:=hS.cell 2 _ rfl;have kw:=hW.cell 0 _ rfl;have HE:=aa hE;have HH:=aa (⟨hS,hW,n1,n2,n3,n4⟩:Bx w qS 66 #[.int .i64 4,.int .i64 n,.func (.func 37) #[.pointer (some ⟨p,0,none⟩)] #[]]/\Bx w qW 58 #[.pointer (some ⟨p,0,none⟩)]/\qS≠p/\qW≠p/\some qS≠v.ownBlock/\some qW≠v.ownBlock);have HLEN:=aa hlen';show Calls prog 47 #[.pointer (some ⟨qS,0,none⟩),.pointer (some ⟨qW,0,none⟩)] w (DoesA w0 p c v w bs (ak.uB (n:Int)++aH f n));have ma:=ak.gT (n:=(n:Int)) (by omega) (by omega);have iY:=aa (wU w0 p c v bs (n:Int) w h (by omega) (by omega) (by rw [aB] at hlen';omega));clear h hE hS hW n1 n2 n3 n4 hlen hlen';go_enter func47,ntmps47;go_wp2_with fail;refine iY.out.mono ?_;rintro e w1 ⟨v1,rfl,hh,kk⟩;have aT:=aa hh;have aN:=aa kk;have eO:Hid (So bs (ak.uB (n:Int)++aH f 0) (bs++ak.uB (n:Int))):=aa (by have h3:=(So.refl bs).app (ak.uB (n:Int));rw [ed] at h3;rw [show aH f 0 = [] from rfl,List.append_nil];exact h3);clear hh kk iY k0 k1 k2 kw;go_wp2_with fail;go_loopw [2] (λi wr=>∃(j:Nat) (v3:Value) (b3:List Int),j<=n/\i=.int .i64 j/\Hid (WS w0 p c v3 b3 wr)/\Hid (Kept p v w v3 wr)/\Hid (So bs (ak.uB (n:Int)++aH f j) b3)) (λi _=>n-(Lib.intOf i).toNat)
 case atStart=>exact ⟨0,_,_,by omega,rfl,aT,aN,eO⟩
 case round =>
  clear aT aN eO;obtain ⟨j,v3,b3,hj,rfl,aM,ba,aR⟩:=hrel;obtain ⟨bS,_⟩:=ba.out.bx HH.out.1 HH.out.2.2.1 HH.out.2.2.2.2.1;obtain ⟨bW,_⟩:=ba.out.bx HH.out.2.1 HH.out.2.2.2.1 HH.out.2.2.2.2.2;have k1:=bS.cell 1 _ rfl;have k2:=bS.cell 2 _ rfl;have kw:=bW.cell 0 _ rfl;clear bS bW;have vZ:(ak.uB (n:Int)++aH f j).length<=(ak.uB (n:Int)++aH f n).length:=by rw [aB,aB];have:=lW f j n hj;omega
  have hb3:b3.length<=38900000000000:=by have h1:=aR.out.2;have h2:=HLEN.out;omega
  by_cases hgo:j<n
  ·have HC:=aa (rE w0 p c v3 b3 wr aM.out (by omega));go_wp2_with fail;refine HC.out.mono ?_;rintro e w3 ⟨rfl,rfl⟩;clear HC;by_cases hfull:262144<b3.length
   ·rw [aC hfull];have HF:Hid (So bs (ak.uB (n:Int)++aH f n) b3):=aa ⟨.inr ⟨hfull,by have h1:=aR.out.2;omega,aR.out.1.le⟩,by have h1:=aR.out.2;omega⟩;clear hfull;go_wp2;go_end0;exact ⟨_,_,rfl,aM.out,ba.out,HF.out.1,HF.out.2⟩
   rw [au hfull];clear hfull
   have HC:=aa (HE.out j v3 b3 w3 hgo aM.out (by
    have h1:=aR.out.2;have h2:=lW f (j+1) n (by omega);have h3:=HLEN.out;rw [show aH f (j+1)=aH f j++f j from rfl] at h2;simp only [aB] at h1 h2 h3;omega))
   go_wp2_with fail;refine HC.out.mono ?_;rintro e w4 ⟨v4,b4,rfl,hh,kk,ha,hl⟩;have dP:=aa hh;have bO:=aa (ba.out.trans kk);have iR:Hid (So bs (ak.uB (n:Int)++aH f (j+1)) b4):=aa (by rw [show aH f (j+1)=aH f j++f j from rfl,<- bf];exact aR.out.adds ha hl);clear hh kk ha hl HC aM ba aR k1 k2 kw;go_wp2;go_roundw
   case rel=>exact ⟨j+1,v4,b4,by omega,by go_num,dP,bO,iR⟩
   case measure=>simp [Lib.intOf];omega
  obtain rfl:n=j:=by omega
  go_wp2;go_end0;exact ⟨_,_,rfl,aM.out,ba.out,aR.out.1,aR.out.2⟩
theorem W6 (w0:World) (p:Nat) (c:Nat->Value) (v:Value) (bs:List Int) (n:Nat) (f:Nat->List Int) (qS qW:Nat) (w:World) (h:WS w0 p c v bs w) (hE:vo w0 p c 38 n f)
  (hS:Bx w qS 66 #[.int .i64 5,.int .i64 n,.func (.func 38) #[.pointer (some ⟨p,0,none⟩)] #[]]) (hW:Bx w qW 58 #[.pointer (some ⟨p,0,none⟩)]) (n1:qS≠p) (n2:qW≠p) (n3:some qS≠v.ownBlock) (n4:some qW≠v.ownBlock)
  (hnn:n<=1000000) (hlen:bs.length+(gV 5 n f).length<=38900000000000) :
  Calls prog 47 #[.pointer (some ⟨qS,0,none⟩),.pointer (some ⟨qW,0,none⟩)] w (DoesA w0 p c v w bs (gV 5 n f)):=by
 have hlen':bs.length+(ak.uB (n:Int)++aH f n).length<=38900000000000:=hlen;have k0:=hS.cell 0 _ rfl;have k1:=hS.cell 1 _ rfl;have k2:=hS.cell 2 _ rfl;have kw:=hW.cell 0 _ rfl;have HE:=aa hE;have HH:=aa (⟨hS,hW,n1,n2,n3,n4⟩:Bx w qS 66 #[.int .i64 5,.int .i64 n,.func (.func 38) #[.pointer (some ⟨p,0,none⟩)] #[]]/\Bx w qW 58 #[.pointer (some ⟨p,0,none⟩)]/\qS≠p/\qW≠p/\some qS≠v.ownBlock/\some qW≠v.ownBlock);have HLEN:=aa hlen';show Calls prog 47 #[.pointer (some ⟨qS,0,none⟩),.pointer (some ⟨qW,0,none⟩)] w (DoesA w0 p c v w bs (ak.uB (n:Int)++aH f n));have ma:=ak.gT (n:=(n:Int)) (by omega) (by omega);have iY:=aa (wU w0 p c v bs (n:Int) w h (by omega) (by omega) (by rw [aB] at hlen';omega));clear h hE hS hW n1 n2 n3 n4 hlen hlen';go_enter func47,ntmps47;go_wp2_with fail;refine iY.out.mono ?_;rintro e w1 ⟨v1,rfl,hh,kk⟩;have aT:=aa hh;have aN:=aa kk;have eO:Hid (So bs (ak.uB (n:Int)++aH f 0) (bs++ak.uB (n:Int))):=aa (by have h3:=(So.refl bs).app (ak.uB (n:Int));rw [ed] at h3;rw [show aH f 0 = [] from rfl,List.append_nil];exact h3);clear hh kk iY k0 k1 k2 kw;go_wp2_with fail;go_loopw [2] (λi wr=>∃(j:Nat) (v3:Value) (b3:List Int),j<=n/\i=.int .i64 j/\Hid (WS w0 p c v3 b3 wr)/\Hid (Kept p v w v3 wr)/\Hid (So bs (ak.uB (n:Int)++aH f j) b3)) (λi _=>n-(Lib.intOf i).toNat)
 case atStart=>exact ⟨0,_,_,by omega,rfl,aT,aN,eO⟩
 case round =>
  clear aT aN eO;obtain ⟨j,v3,b3,hj,rfl,aM,ba,aR⟩:=hrel;obtain ⟨bS,_⟩:=ba.out.bx HH.out.1 HH.out.2.2.1 HH.out.2.2.2.2.1;obtain ⟨bW,_⟩:=ba.out.bx HH.out.2.1 HH.out.2.2.2.1 HH.out.2.2.2.2.2;have k1:=bS.cell 1 _ rfl;have k2:=bS.cell 2 _ rfl;have kw:=bW.cell 0 _ rfl;clear bS bW;have vZ:(ak.uB (n:Int)++aH f j).length<=(ak.uB (n:Int)++aH f n).length:=by rw [aB,aB];have:=lW f j n hj;omega
  have hb3:b3.length<=38900000000000:=by have h1:=aR.out.2;have h2:=HLEN.out;omega
  by_cases hgo:j<n
  ·have HC:=aa (rE w0 p c v3 b3 wr aM.out (by omega));go_wp2_with fail;refine HC.out.mono ?_;rintro e w3 ⟨rfl,rfl⟩;clear HC;by_cases hfull:262144<b3.length
   ·rw [aC hfull];have HF:Hid (So bs (ak.uB (n:Int)++aH f n) b3):=aa ⟨.inr ⟨hfull,by have h1:=aR.out.2;omega,aR.out.1.le⟩,by have h1:=aR.out.2;omega⟩;clear hfull;go_wp2;go_end0;exact ⟨_,_,rfl,aM.out,ba.out,HF.out.1,HF.out.2⟩
   rw [au hfull];clear hfull
   have HC:=aa (HE.out j v3 b3 w3 hgo aM.out (by
    have h1:=aR.out.2;have h2:=lW f (j+1) n (by omega);have h3:=HLEN.out;rw [show aH f (j+1)=aH f j++f j from rfl] at h2;simp only [aB] at h1 h2 h3;omega))
   go_wp2_with fail;refine HC.out.mono ?_;rintro e w4 ⟨v4,b4,rfl,hh,kk,ha,hl⟩;have dP:=aa hh;have bO:=aa (ba.out.trans kk);have iR:Hid (So bs (ak.uB (n:Int)++aH f (j+1)) b4):=aa (by rw [show aH f (j+1)=aH f j++f j from rfl,<- bf];exact aR.out.adds ha hl);clear hh kk ha hl HC aM ba aR k1 k2 kw;go_wp2;go_roundw
   case rel=>exact ⟨j+1,v4,b4,by omega,by go_num,dP,bO,iR⟩
   case measure=>simp [Lib.intOf];omega
  obtain rfl:n=j:=by omega
  go_wp2;go_end0;exact ⟨_,_,rfl,aM.out,ba.out,aR.out.1,aR.out.2⟩
theorem W8 (w0:World) (p:Nat) (c:Nat->Value) (v:Value) (bs:List Int) (n:Nat) (f:Nat->List Int) (qS qW:Nat) (w:World) (h:WS w0 p c v bs w) (hE:vo w0 p c 39 n f)
  (hS:Bx w qS 66 #[.int .i64 6,.int .i64 n,.func (.func 39) #[.pointer (some ⟨p,0,none⟩)] #[]]) (hW:Bx w qW 58 #[.pointer (some ⟨p,0,none⟩)]) (n1:qS≠p) (n2:qW≠p) (n3:some qS≠v.ownBlock) (n4:some qW≠v.ownBlock)
  (hnn:n<=1000000) (hlen:bs.length+(gV 6 n f).length<=38900000000000) :
  Calls prog 47 #[.pointer (some ⟨qS,0,none⟩),.pointer (some ⟨qW,0,none⟩)] w (DoesA w0 p c v w bs (gV 6 n f)):=by
 have hlen':bs.length+(ak.uB (n:Int)++aH f n).length<=38900000000000:=hlen;have k0:=hS.cell 0 _ rfl;have k1:=hS.cell 1 _ rfl;have k2:=hS.cell 2 _ rfl;have kw:=hW.cell 0 _ rfl;have HE:=aa hE;have HH:=aa (⟨hS,hW,n1,n2,n3,n4⟩:Bx w qS 66 #[.int .i64 6,.int .i64 n,.func (.func 39) #[.pointer (some ⟨p,0,none⟩)] #[]]/\Bx w qW 58 #[.pointer (some ⟨p,0,none⟩)]/\qS≠p/\qW≠p/\some qS≠v.ownBlock/\some qW≠v.ownBlock);have HLEN:=aa hlen';show Calls prog 47 #[.pointer (some ⟨qS,0,none⟩),.pointer (some ⟨qW,0,none⟩)] w (DoesA w0 p c v w bs (ak.uB (n:Int)++aH f n));have ma:=ak.gT (n:=(n:Int)) (by omega) (by omega);have iY:=aa (wU w0 p c v bs (n:Int) w h (by omega) (by omega) (by rw [aB] at hlen';omega));clear h hE hS hW n1 n2 n3 n4 hlen hlen';go_enter func47,ntmps47;go_wp2_with fail;refine iY.out.mono ?_;rintro e w1 ⟨v1,rfl,hh,kk⟩;have aT:=aa hh;have aN:=aa kk;have eO:Hid (So bs (ak.uB (n:Int)++aH f 0) (bs++ak.uB (n:Int))):=aa (by have h3:=(So.refl bs).app (ak.uB (n:Int));rw [ed] at h3;rw [show aH f 0 = [] from rfl,List.append_nil];exact h3);clear hh kk iY k0 k1 k2 kw;go_wp2_with fail;go_loopw [2] (λi wr=>∃(j:Nat) (v3:Value) (b3:List Int),j<=n/\i=.int .i64 j/\Hid (WS w0 p c v3 b3 wr)/\Hid (Kept p v w v3 wr)/\Hid (So bs (ak.uB (n:Int)++aH f j) b3)) (λi _=>n-(Lib.intOf i).toNat)
 case atStart=>exact ⟨0,_,_,by omega,rfl,aT,aN,eO⟩
 case round =>
  clear aT aN eO;obtain ⟨j,v3,b3,hj,rfl,aM,ba,aR⟩:=hrel;obtain ⟨bS,_⟩:=ba.out.bx HH.out.1 HH.out.2.2.1 HH.out.2.2.2.2.1;obtain ⟨bW,_⟩:=ba.out.bx HH.out.2.1 HH.out.2.2.2.1 HH.out.2.2.2.2.2;have k1:=bS.cell 1 _ rfl;have k2:=bS.cell 2 _ rfl;have kw:=bW.cell 0 _ rfl;clear bS bW;have vZ:(ak.uB (n:Int)++aH f j).length<=(ak.uB (n:Int)++aH f n).length:=by rw [aB,aB];have:=lW f j n hj;omega
  have hb3:b3.length<=38900000000000:=by have h1:=aR.out.2;have h2:=HLEN.out;omega
  by_cases hgo:j<n
  ·have HC:=aa (rE w0 p c v3 b3 wr aM.out (by omega));go_wp2_with fail;refine HC.out.mono ?_;rintro e w3 ⟨rfl,rfl⟩;clear HC;by_cases hfull:262144<b3.length
   ·rw [aC hfull];have HF:Hid (So bs (ak.uB (n:Int)++aH f n) b3):=aa ⟨.inr ⟨hfull,by have h1:=aR.out.2;omega,aR.out.1.le⟩,by have h1:=aR.out.2;omega⟩;clear hfull;go_wp2;go_end0;exact ⟨_,_,rfl,aM.out,ba.out,HF.out.1,HF.out.2⟩
   rw [au hfull];clear hfull
   have HC:=aa (HE.out j v3 b3 w3 hgo aM.out (by
    have h1:=aR.out.2;have h2:=lW f (j+1) n (by omega);have h3:=HLEN.out;rw [show aH f (j+1)=aH f j++f j from rfl] at h2;simp only [aB] at h1 h2 h3;omega))
   go_wp2_with fail;refine HC.out.mono ?_;rintro e w4 ⟨v4,b4,rfl,hh,kk,ha,hl⟩;have dP:=aa hh;have bO:=aa (ba.out.trans kk);have iR:Hid (So bs (ak.uB (n:Int)++aH f (j+1)) b4):=aa (by rw [show aH f (j+1)=aH f j++f j from rfl,<- bf];exact aR.out.adds ha hl);clear hh kk ha hl HC aM ba aR k1 k2 kw;go_wp2;go_roundw
   case rel=>exact ⟨j+1,v4,b4,by omega,by go_num,dP,bO,iR⟩
   case measure=>simp [Lib.intOf];omega
  obtain rfl:n=j:=by omega
  go_wp2;go_end0;exact ⟨_,_,rfl,aM.out,ba.out,aR.out.1,aR.out.2⟩
theorem Xb (w0:World) (p:Nat) (c:Nat->Value) (v:Value) (bs:List Int) (n:Nat) (f:Nat->List Int) (qS qW:Nat) (w:World) (h:WS w0 p c v bs w) (hE:vo w0 p c 40 n f)
  (hS:Bx w qS 66 #[.int .i64 7,.int .i64 n,.func (.func 40) #[.pointer (some ⟨p,0,none⟩)] #[]]) (hW:Bx w qW 58 #[.pointer (some ⟨p,0,none⟩)]) (n1:qS≠p) (n2:qW≠p) (n3:some qS≠v.ownBlock) (n4:some qW≠v.ownBlock)
  (hnn:n<=1000000) (hlen:bs.length+(gV 7 n f).length<=38900000000000) :
  Calls prog 47 #[.pointer (some ⟨qS,0,none⟩),.pointer (some ⟨qW,0,none⟩)] w (DoesA w0 p c v w bs (gV 7 n f)):=by
 have hlen':bs.length+(ak.uB (n:Int)++aH f n).length<=38900000000000:=hlen;have k0:=hS.cell 0 _ rfl;have k1:=hS.cell 1 _ rfl;have k2:=hS.cell 2 _ rfl;have kw:=hW.cell 0 _ rfl;have HE:=aa hE;have HH:=aa (⟨hS,hW,n1,n2,n3,n4⟩:Bx w qS 66 #[.int .i64 7,.int .i64 n,.func (.func 40) #[.pointer (some ⟨p,0,none⟩)] #[]]/\Bx w qW 58 #[.pointer (some ⟨p,0,none⟩)]/\qS≠p/\qW≠p/\some qS≠v.ownBlock/\some qW≠v.ownBlock);have HLEN:=aa hlen';show Calls prog 47 #[.pointer (some ⟨qS,0,none⟩),.pointer (some ⟨qW,0,none⟩)] w (DoesA w0 p c v w bs (ak.uB (n:Int)++aH f n));have ma:=ak.gT (n:=(n:Int)) (by omega) (by omega);have iY:=aa (wU w0 p c v bs (n:Int) w h (by omega) (by omega) (by rw [aB] at hlen';omega));clear h hE hS hW n1 n2 n3 n4 hlen hlen';go_enter func47,ntmps47;go_wp2_with fail;refine iY.out.mono ?_;rintro e w1 ⟨v1,rfl,hh,kk⟩;have aT:=aa hh;have aN:=aa kk;have eO:Hid (So bs (ak.uB (n:Int)++aH f 0) (bs++ak.uB (n:Int))):=aa (by have h3:=(So.refl bs).app (ak.uB (n:Int));rw [ed] at h3;rw [show aH f 0 = [] from rfl,List.append_nil];exact h3);clear hh kk iY k0 k1 k2 kw;go_wp2_with fail;go_loopw [2] (λi wr=>∃(j:Nat) (v3:Value) (b3:List Int),j<=n/\i=.int .i64 j/\Hid (WS w0 p c v3 b3 wr)/\Hid (Kept p v w v3 wr)/\Hid (So bs (ak.uB (n:Int)++aH f j) b3)) (λi _=>n-(Lib.intOf i).toNat)
 case atStart=>exact ⟨0,_,_,by omega,rfl,aT,aN,eO⟩
 case round =>
  clear aT aN eO;obtain ⟨j,v3,b3,hj,rfl,aM,ba,aR⟩:=hrel;obtain ⟨bS,_⟩:=ba.out.bx HH.out.1 HH.out.2.2.1 HH.out.2.2.2.2.1;obtain ⟨bW,_⟩:=ba.out.bx HH.out.2.1 HH.out.2.2.2.1 HH.out.2.2.2.2.2;have k1:=bS.cell 1 _ rfl;have k2:=bS.cell 2 _ rfl;have kw:=bW.cell 0 _ rfl;clear bS bW;have vZ:(ak.uB (n:Int)++aH f j).length<=(ak.uB (n:Int)++aH f n).length:=by rw [aB,aB];have:=lW f j n hj;omega
  have hb3:b3.length<=38900000000000:=by have h1:=aR.out.2;have h2:=HLEN.out;omega
  by_cases hgo:j<n
  ·have HC:=aa (rE w0 p c v3 b3 wr aM.out (by omega));go_wp2_with fail;refine HC.out.mono ?_;rintro e w3 ⟨rfl,rfl⟩;clear HC;by_cases hfull:262144<b3.length
   ·rw [aC hfull];have HF:Hid (So bs (ak.uB (n:Int)++aH f n) b3):=aa ⟨.inr ⟨hfull,by have h1:=aR.out.2;omega,aR.out.1.le⟩,by have h1:=aR.out.2;omega⟩;clear hfull;go_wp2;go_end0;exact ⟨_,_,rfl,aM.out,ba.out,HF.out.1,HF.out.2⟩
   rw [au hfull];clear hfull
   have HC:=aa (HE.out j v3 b3 w3 hgo aM.out (by
    have h1:=aR.out.2;have h2:=lW f (j+1) n (by omega);have h3:=HLEN.out;rw [show aH f (j+1)=aH f j++f j from rfl] at h2;simp only [aB] at h1 h2 h3;omega))
   go_wp2_with fail;refine HC.out.mono ?_;rintro e w4 ⟨v4,b4,rfl,hh,kk,ha,hl⟩;have dP:=aa hh;have bO:=aa (ba.out.trans kk);have iR:Hid (So bs (ak.uB (n:Int)++aH f (j+1)) b4):=aa (by rw [show aH f (j+1)=aH f j++f j from rfl,<- bf];exact aR.out.adds ha hl);clear hh kk ha hl HC aM ba aR k1 k2 kw;go_wp2;go_roundw
   case rel=>exact ⟨j+1,v4,b4,by omega,by go_num,dP,bO,iR⟩
   case measure=>simp [Lib.intOf];omega
  obtain rfl:n=j:=by omega
  go_wp2;go_end0;exact ⟨_,_,rfl,aM.out,ba.out,aR.out.1,aR.out.2⟩
theorem Xe (w0:World) (p:Nat) (c:Nat->Value) (v:Value) (bs:List Int) (n:Nat) (f:Nat->List Int) (qS qW:Nat) (w:World) (h:WS w0 p c v bs w) (hE:vo w0 p c 41 n f)
  (hS:Bx w qS 66 #[.int .i64 8,.int .i64 n,.func (.func 41) #[.pointer (some ⟨p,0,none⟩)] #[]]) (hW:Bx w qW 58 #[.pointer (some ⟨p,0,none⟩)]) (n1:qS≠p) (n2:qW≠p) (n3:some qS≠v.ownBlock) (n4:some qW≠v.ownBlock)
  (hnn:n<=1000000) (hlen:bs.length+(gV 8 n f).length<=38900000000000) :
  Calls prog 47 #[.pointer (some ⟨qS,0,none⟩),.pointer (some ⟨qW,0,none⟩)] w (DoesA w0 p c v w bs (gV 8 n f)):=by
 have hlen':bs.length+(([]:List Int)++aH f n).length<=38900000000000:=hlen;have k0:=hS.cell 0 _ rfl;have k1:=hS.cell 1 _ rfl;have k2:=hS.cell 2 _ rfl;have kw:=hW.cell 0 _ rfl;have HE:=aa hE;have HH:=aa (⟨hS,hW,n1,n2,n3,n4⟩:Bx w qS 66 #[.int .i64 8,.int .i64 n,.func (.func 41) #[.pointer (some ⟨p,0,none⟩)] #[]]/\Bx w qW 58 #[.pointer (some ⟨p,0,none⟩)]/\qS≠p/\qW≠p/\some qS≠v.ownBlock/\some qW≠v.ownBlock);have HLEN:=aa hlen';show Calls prog 47 #[.pointer (some ⟨qS,0,none⟩),.pointer (some ⟨qW,0,none⟩)] w (DoesA w0 p c v w bs (([]:List Int)++aH f n));have aT:=aa h;have aN:Hid (Kept p v w v w):=aa (Kept.refl _ _ _);have eO:Hid (So bs (([]:List Int)++aH f 0) bs):=aa (So.refl bs);clear h hE hS hW n1 n2 n3 n4 hlen hlen';go_enter func47,ntmps47;go_wp2_with fail;go_loopw [2] (λi wr=>∃(j:Nat) (v3:Value) (b3:List Int),j<=n/\i=.int .i64 j/\Hid (WS w0 p c v3 b3 wr)/\Hid (Kept p v w v3 wr)/\Hid (So bs (([]:List Int)++aH f j) b3)) (λi _=>n-(Lib.intOf i).toNat)
 case atStart=>exact ⟨0,_,_,by omega,rfl,aT,aN,eO⟩
 case round =>
  clear aT aN eO;obtain ⟨j,v3,b3,hj,rfl,aM,ba,aR⟩:=hrel;obtain ⟨bS,_⟩:=ba.out.bx HH.out.1 HH.out.2.2.1 HH.out.2.2.2.2.1;obtain ⟨bW,_⟩:=ba.out.bx HH.out.2.1 HH.out.2.2.2.1 HH.out.2.2.2.2.2;have k1:=bS.cell 1 _ rfl;have k2:=bS.cell 2 _ rfl;have kw:=bW.cell 0 _ rfl;clear bS bW;have vZ:(([]:List Int)++aH f j).length<=(([]:List Int)++aH f n).length:=by rw [aB,aB];have:=lW f j n hj;omega
  have hb3:b3.length<=38900000000000:=by have h1:=aR.out.2;have h2:=HLEN.out;omega
  by_cases hgo:j<n
  ·have HC:=aa (rE w0 p c v3 b3 wr aM.out (by omega));go_wp2_with fail;refine HC.out.mono ?_;rintro e w3 ⟨rfl,rfl⟩;clear HC;by_cases hfull:262144<b3.length
   ·rw [aC hfull];have HF:Hid (So bs (([]:List Int)++aH f n) b3):=aa ⟨.inr ⟨hfull,by have h1:=aR.out.2;omega,aR.out.1.le⟩,by have h1:=aR.out.2;omega⟩;clear hfull;go_wp2;go_end0;exact ⟨_,_,rfl,aM.out,ba.out,HF.out.1,HF.out.2⟩
   rw [au hfull];clear hfull
   have HC:=aa (HE.out j v3 b3 w3 hgo aM.out (by
    have h1:=aR.out.2;have h2:=lW f (j+1) n (by omega);have h3:=HLEN.out;rw [show aH f (j+1)=aH f j++f j from rfl] at h2;simp only [aB] at h1 h2 h3;omega))
   go_wp2_with fail;refine HC.out.mono ?_;rintro e w4 ⟨v4,b4,rfl,hh,kk,ha,hl⟩;have dP:=aa hh;have bO:=aa (ba.out.trans kk);have iR:Hid (So bs (([]:List Int)++aH f (j+1)) b4):=aa (by rw [show aH f (j+1)=aH f j++f j from rfl,<- bf];exact aR.out.adds ha hl);clear hh kk ha hl HC aM ba aR k1 k2 kw;go_wp2;go_roundw
   case rel=>exact ⟨j+1,v4,b4,by omega,by go_num,dP,bO,iR⟩
   case measure=>simp [Lib.intOf];omega
  obtain rfl:n=j:=by omega
  go_wp2;go_end0;exact ⟨_,_,rfl,aM.out,ba.out,aR.out.1,aR.out.2⟩
theorem Xg (w0:World) (p:Nat) (c:Nat->Value) (v:Value) (bs:List Int) (n:Nat) (f:Nat->List Int) (qS qW:Nat) (w:World) (h:WS w0 p c v bs w) (hE:vo w0 p c 42 n f)
  (hS:Bx w qS 66 #[.int .i64 9,.int .i64 n,.func (.func 42) #[.pointer (some ⟨p,0,none⟩)] #[]]) (hW:Bx w qW 58 #[.pointer (some ⟨p,0,none⟩)]) (n1:qS≠p) (n2:qW≠p) (n3:some qS≠v.ownBlock) (n4:some qW≠v.ownBlock)
  (hnn:n<=1000000) (hlen:bs.length+(gV 9 n f).length<=38900000000000) :
  Calls prog 47 #[.pointer (some ⟨qS,0,none⟩),.pointer (some ⟨qW,0,none⟩)] w (DoesA w0 p c v w bs (gV 9 n f)):=by
 have hlen':bs.length+(ak.uB (n:Int)++aH f n).length<=38900000000000:=hlen;have k0:=hS.cell 0 _ rfl;have k1:=hS.cell 1 _ rfl;have k2:=hS.cell 2 _ rfl;have kw:=hW.cell 0 _ rfl;have HE:=aa hE;have HH:=aa (⟨hS,hW,n1,n2,n3,n4⟩:Bx w qS 66 #[.int .i64 9,.int .i64 n,.func (.func 42) #[.pointer (some ⟨p,0,none⟩)] #[]]/\Bx w qW 58 #[.pointer (some ⟨p,0,none⟩)]/\qS≠p/\qW≠p/\some qS≠v.ownBlock/\some qW≠v.ownBlock);have HLEN:=aa hlen';show Calls prog 47 #[.pointer (some ⟨qS,0,none⟩),.pointer (some ⟨qW,0,none⟩)] w (DoesA w0 p c v w bs (ak.uB (n:Int)++aH f n));have ma:=ak.gT (n:=(n:Int)) (by omega) (by omega);have iY:=aa (wU w0 p c v bs (n:Int) w h (by omega) (by omega) (by rw [aB] at hlen';omega));clear h hE hS hW n1 n2 n3 n4 hlen hlen';go_enter func47,ntmps47;go_wp2_with fail;refine iY.out.mono ?_;rintro e w1 ⟨v1,rfl,hh,kk⟩;have aT:=aa hh;have aN:=aa kk;have eO:Hid (So bs (ak.uB (n:Int)++aH f 0) (bs++ak.uB (n:Int))):=aa (by have h3:=(So.refl bs).app (ak.uB (n:Int));rw [ed] at h3;rw [show aH f 0 = [] from rfl,List.append_nil];exact h3);clear hh kk iY k0 k1 k2 kw;go_wp2_with fail;go_loopw [2] (λi wr=>∃(j:Nat) (v3:Value) (b3:List Int),j<=n/\i=.int .i64 j/\Hid (WS w0 p c v3 b3 wr)/\Hid (Kept p v w v3 wr)/\Hid (So bs (ak.uB (n:Int)++aH f j) b3)) (λi _=>n-(Lib.intOf i).toNat)
 case atStart=>exact ⟨0,_,_,by omega,rfl,aT,aN,eO⟩
 case round =>
  clear aT aN eO;obtain ⟨j,v3,b3,hj,rfl,aM,ba,aR⟩:=hrel;obtain ⟨bS,_⟩:=ba.out.bx HH.out.1 HH.out.2.2.1 HH.out.2.2.2.2.1;obtain ⟨bW,_⟩:=ba.out.bx HH.out.2.1 HH.out.2.2.2.1 HH.out.2.2.2.2.2;have k1:=bS.cell 1 _ rfl;have k2:=bS.cell 2 _ rfl;have kw:=bW.cell 0 _ rfl;clear bS bW;have vZ:(ak.uB (n:Int)++aH f j).length<=(ak.uB (n:Int)++aH f n).length:=by rw [aB,aB];have:=lW f j n hj;omega
  have hb3:b3.length<=38900000000000:=by have h1:=aR.out.2;have h2:=HLEN.out;omega
  by_cases hgo:j<n
  ·have HC:=aa (rE w0 p c v3 b3 wr aM.out (by omega));go_wp2_with fail;refine HC.out.mono ?_;rintro e w3 ⟨rfl,rfl⟩;clear HC;by_cases hfull:262144<b3.length
   ·rw [aC hfull];have HF:Hid (So bs (ak.uB (n:Int)++aH f n) b3):=aa ⟨.inr ⟨hfull,by have h1:=aR.out.2;omega,aR.out.1.le⟩,by have h1:=aR.out.2;omega⟩;clear hfull;go_wp2;go_end0;exact ⟨_,_,rfl,aM.out,ba.out,HF.out.1,HF.out.2⟩
   rw [au hfull];clear hfull
   have HC:=aa (HE.out j v3 b3 w3 hgo aM.out (by
    have h1:=aR.out.2;have h2:=lW f (j+1) n (by omega);have h3:=HLEN.out;rw [show aH f (j+1)=aH f j++f j from rfl] at h2;simp only [aB] at h1 h2 h3;omega))
   go_wp2_with fail;refine HC.out.mono ?_;rintro e w4 ⟨v4,b4,rfl,hh,kk,ha,hl⟩;have dP:=aa hh;have bO:=aa (ba.out.trans kk);have iR:Hid (So bs (ak.uB (n:Int)++aH f (j+1)) b4):=aa (by rw [show aH f (j+1)=aH f j++f j from rfl,<- bf];exact aR.out.adds ha hl);clear hh kk ha hl HC aM ba aR k1 k2 kw;go_wp2;go_roundw
   case rel=>exact ⟨j+1,v4,b4,by omega,by go_num,dP,bO,iR⟩
   case measure=>simp [Lib.intOf];omega
  obtain rfl:n=j:=by omega
  go_wp2;go_end0;exact ⟨_,_,rfl,aM.out,ba.out,aR.out.1,aR.out.2⟩
theorem Xj (w0:World) (p:Nat) (c:Nat->Value) (v:Value) (bs:List Int) (n:Nat) (f:Nat->List Int) (qS qW:Nat) (w:World) (h:WS w0 p c v bs w) (hE:vo w0 p c 43 n f)
  (hS:Bx w qS 66 #[.int .i64 10,.int .i64 n,.func (.func 43) #[.pointer (some ⟨p,0,none⟩)] #[]]) (hW:Bx w qW 58 #[.pointer (some ⟨p,0,none⟩)]) (n1:qS≠p) (n2:qW≠p) (n3:some qS≠v.ownBlock) (n4:some qW≠v.ownBlock)
  (hnn:n<=1000000) (hlen:bs.length+(gV 10 n f).length<=38900000000000) :
  Calls prog 47 #[.pointer (some ⟨qS,0,none⟩),.pointer (some ⟨qW,0,none⟩)] w (DoesA w0 p c v w bs (gV 10 n f)):=by
 have hlen':bs.length+(ak.uB (n:Int)++aH f n).length<=38900000000000:=hlen;have k0:=hS.cell 0 _ rfl;have k1:=hS.cell 1 _ rfl;have k2:=hS.cell 2 _ rfl;have kw:=hW.cell 0 _ rfl;have HE:=aa hE;have HH:=aa (⟨hS,hW,n1,n2,n3,n4⟩:Bx w qS 66 #[.int .i64 10,.int .i64 n,.func (.func 43) #[.pointer (some ⟨p,0,none⟩)] #[]]/\Bx w qW 58 #[.pointer (some ⟨p,0,none⟩)]/\qS≠p/\qW≠p/\some qS≠v.ownBlock/\some qW≠v.ownBlock);have HLEN:=aa hlen';show Calls prog 47 #[.pointer (some ⟨qS,0,none⟩),.pointer (some ⟨qW,0,none⟩)] w (DoesA w0 p c v w bs (ak.uB (n:Int)++aH f n));have ma:=ak.gT (n:=(n:Int)) (by omega) (by omega);have iY:=aa (wU w0 p c v bs (n:Int) w h (by omega) (by omega) (by rw [aB] at hlen';omega));clear h hE hS hW n1 n2 n3 n4 hlen hlen';go_enter func47,ntmps47;go_wp2_with fail;refine iY.out.mono ?_;rintro e w1 ⟨v1,rfl,hh,kk⟩;have aT:=aa hh;have aN:=aa kk;have eO:Hid (So bs (ak.uB (n:Int)++aH f 0) (bs++ak.uB (n:Int))):=aa (by have h3:=(So.refl bs).app (ak.uB (n:Int));rw [ed] at h3;rw [show aH f 0 = [] from rfl,List.append_nil];exact h3);clear hh kk iY k0 k1 k2 kw;go_wp2_with fail;go_loopw [2] (λi wr=>∃(j:Nat) (v3:Value) (b3:List Int),j<=n/\i=.int .i64 j/\Hid (WS w0 p c v3 b3 wr)/\Hid (Kept p v w v3 wr)/\Hid (So bs (ak.uB (n:Int)++aH f j) b3)) (λi _=>n-(Lib.intOf i).toNat)
 case atStart=>exact ⟨0,_,_,by omega,rfl,aT,aN,eO⟩
 case round =>
  clear aT aN eO;obtain ⟨j,v3,b3,hj,rfl,aM,ba,aR⟩:=hrel;obtain ⟨bS,_⟩:=ba.out.bx HH.out.1 HH.out.2.2.1 HH.out.2.2.2.2.1;obtain ⟨bW,_⟩:=ba.out.bx HH.out.2.1 HH.out.2.2.2.1 HH.out.2.2.2.2.2;have k1:=bS.cell 1 _ rfl;have k2:=bS.cell 2 _ rfl;have kw:=bW.cell 0 _ rfl;clear bS bW;have vZ:(ak.uB (n:Int)++aH f j).length<=(ak.uB (n:Int)++aH f n).length:=by rw [aB,aB];have:=lW f j n hj;omega
  have hb3:b3.length<=38900000000000:=by have h1:=aR.out.2;have h2:=HLEN.out;omega
  by_cases hgo:j<n
  ·have HC:=aa (rE w0 p c v3 b3 wr aM.out (by omega));go_wp2_with fail;refine HC.out.mono ?_;rintro e w3 ⟨rfl,rfl⟩;clear HC;by_cases hfull:262144<b3.length
   ·rw [aC hfull];have HF:Hid (So bs (ak.uB (n:Int)++aH f n) b3):=aa ⟨.inr ⟨hfull,by have h1:=aR.out.2;omega,aR.out.1.le⟩,by have h1:=aR.out.2;omega⟩;clear hfull;go_wp2;go_end0;exact ⟨_,_,rfl,aM.out,ba.out,HF.out.1,HF.out.2⟩
   rw [au hfull];clear hfull
   have HC:=aa (HE.out j v3 b3 w3 hgo aM.out (by
    have h1:=aR.out.2;have h2:=lW f (j+1) n (by omega);have h3:=HLEN.out;rw [show aH f (j+1)=aH f j++f j from rfl] at h2;simp only [aB] at h1 h2 h3;omega))
   go_wp2_with fail;refine HC.out.mono ?_;rintro e w4 ⟨v4,b4,rfl,hh,kk,ha,hl⟩;have dP:=aa hh;have bO:=aa (ba.out.trans kk);have iR:Hid (So bs (ak.uB (n:Int)++aH f (j+1)) b4):=aa (by rw [show aH f (j+1)=aH f j++f j from rfl,<- bf];exact aR.out.adds ha hl);clear hh kk ha hl HC aM ba aR k1 k2 kw;go_wp2;go_roundw
   case rel=>exact ⟨j+1,v4,b4,by omega,by go_num,dP,bO,iR⟩
   case measure=>simp [Lib.intOf];omega
  obtain rfl:n=j:=by omega
  go_wp2;go_end0;exact ⟨_,_,rfl,aM.out,ba.out,aR.out.1,aR.out.2⟩
theorem Xm (w0:World) (p:Nat) (c:Nat->Value) (v:Value) (bs:List Int) (n:Nat) (f:Nat->List Int) (qS qW:Nat) (w:World) (h:WS w0 p c v bs w) (hE:vo w0 p c 44 n f)
  (hS:Bx w qS 66 #[.int .i64 11,.int .i64 n,.func (.func 44) #[.pointer (some ⟨p,0,none⟩)] #[]]) (hW:Bx w qW 58 #[.pointer (some ⟨p,0,none⟩)]) (n1:qS≠p) (n2:qW≠p) (n3:some qS≠v.ownBlock) (n4:some qW≠v.ownBlock)
  (hnn:n<=1000000) (hlen:bs.length+(gV 11 n f).length<=38900000000000) :
  Calls prog 47 #[.pointer (some ⟨qS,0,none⟩),.pointer (some ⟨qW,0,none⟩)] w (DoesA w0 p c v w bs (gV 11 n f)):=by
 have hlen':bs.length+(ak.uB (n:Int)++aH f n).length<=38900000000000:=hlen;have k0:=hS.cell 0 _ rfl;have k1:=hS.cell 1 _ rfl;have k2:=hS.cell 2 _ rfl;have kw:=hW.cell 0 _ rfl;have HE:=aa hE;have HH:=aa (⟨hS,hW,n1,n2,n3,n4⟩:Bx w qS 66 #[.int .i64 11,.int .i64 n,.func (.func 44) #[.pointer (some ⟨p,0,none⟩)] #[]]/\Bx w qW 58 #[.pointer (some ⟨p,0,none⟩)]/\qS≠p/\qW≠p/\some qS≠v.ownBlock/\some qW≠v.ownBlock);have HLEN:=aa hlen';show Calls prog 47 #[.pointer (some ⟨qS,0,none⟩),.pointer (some ⟨qW,0,none⟩)] w (DoesA w0 p c v w bs (ak.uB (n:Int)++aH f n));have ma:=ak.gT (n:=(n:Int)) (by omega) (by omega);have iY:=aa (wU w0 p c v bs (n:Int) w h (by omega) (by omega) (by rw [aB] at hlen';omega));clear h hE hS hW n1 n2 n3 n4 hlen hlen';go_enter func47,ntmps47;go_wp2_with fail;refine iY.out.mono ?_;rintro e w1 ⟨v1,rfl,hh,kk⟩;have aT:=aa hh;have aN:=aa kk;have eO:Hid (So bs (ak.uB (n:Int)++aH f 0) (bs++ak.uB (n:Int))):=aa (by have h3:=(So.refl bs).app (ak.uB (n:Int));rw [ed] at h3;rw [show aH f 0 = [] from rfl,List.append_nil];exact h3);clear hh kk iY k0 k1 k2 kw;go_wp2_with fail;go_loopw [2] (λi wr=>∃(j:Nat) (v3:Value) (b3:List Int),j<=n/\i=.int .i64 j/\Hid (WS w0 p c v3 b3 wr)/\Hid (Kept p v w v3 wr)/\Hid (So bs (ak.uB (n:Int)++aH f j) b3)) (λi _=>n-(Lib.intOf i).toNat)
 case atStart=>exact ⟨0,_,_,by omega,rfl,aT,aN,eO⟩
 case round =>
  clear aT aN eO;obtain ⟨j,v3,b3,hj,rfl,aM,ba,aR⟩:=hrel;obtain ⟨bS,_⟩:=ba.out.bx HH.out.1 HH.out.2.2.1 HH.out.2.2.2.2.1;obtain ⟨bW,_⟩:=ba.out.bx HH.out.2.1 HH.out.2.2.2.1 HH.out.2.2.2.2.2;have k1:=bS.cell 1 _ rfl;have k2:=bS.cell 2 _ rfl;have kw:=bW.cell 0 _ rfl;clear bS bW;have vZ:(ak.uB (n:Int)++aH f j).length<=(ak.uB (n:Int)++aH f n).length:=by rw [aB,aB];have:=lW f j n hj;omega
  have hb3:b3.length<=38900000000000:=by have h1:=aR.out.2;have h2:=HLEN.out;omega
  by_cases hgo:j<n
  ·have HC:=aa (rE w0 p c v3 b3 wr aM.out (by omega));go_wp2_with fail;refine HC.out.mono ?_;rintro e w3 ⟨rfl,rfl⟩;clear HC;by_cases hfull:262144<b3.length
   ·rw [aC hfull];have HF:Hid (So bs (ak.uB (n:Int)++aH f n) b3):=aa ⟨.inr ⟨hfull,by have h1:=aR.out.2;omega,aR.out.1.le⟩,by have h1:=aR.out.2;omega⟩;clear hfull;go_wp2;go_end0;exact ⟨_,_,rfl,aM.out,ba.out,HF.out.1,HF.out.2⟩
   rw [au hfull];clear hfull
   have HC:=aa (HE.out j v3 b3 w3 hgo aM.out (by
    have h1:=aR.out.2;have h2:=lW f (j+1) n (by omega);have h3:=HLEN.out;rw [show aH f (j+1)=aH f j++f j from rfl] at h2;simp only [aB] at h1 h2 h3;omega))
   go_wp2_with fail;refine HC.out.mono ?_;rintro e w4 ⟨v4,b4,rfl,hh,kk,ha,hl⟩;have dP:=aa hh;have bO:=aa (ba.out.trans kk);have iR:Hid (So bs (ak.uB (n:Int)++aH f (j+1)) b4):=aa (by rw [show aH f (j+1)=aH f j++f j from rfl,<- bf];exact aR.out.adds ha hl);clear hh kk ha hl HC aM ba aR k1 k2 kw;go_wp2;go_roundw
   case rel=>exact ⟨j+1,v4,b4,by omega,by go_num,dP,bO,iR⟩
   case measure=>simp [Lib.intOf];omega
  obtain rfl:n=j:=by omega
  go_wp2;go_end0;exact ⟨_,_,rfl,aM.out,ba.out,aR.out.1,aR.out.2⟩
end Go.Proofs.YtmfcojpjpgldhaaGreatDoor
