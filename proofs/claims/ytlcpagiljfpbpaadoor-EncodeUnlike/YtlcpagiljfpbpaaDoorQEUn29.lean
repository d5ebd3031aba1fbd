/- Texts that the claim needs. -/
import Derived.Test.YtlcpagiljfpbpaaDoorQEUn28
namespace Go.Proofs.YtlcpagiljfpbpaaDoor
open Go.RowKit Rep Enc Go.Lib
set_option linter.unusedVariables false
namespace Enc
def EntC (w0:World) (p:Nat) (c:Nat->Value) (F:FuncId) (n:Nat) (f:Nat->List Int):Prop:=∀(i:Nat) (v:Value) (bs:List Int) (w:World),i<n->WS w0 p c v bs w->bs.length+(f i).length<=38900000000000 ->
 Calls Tryd.prog F #[.pointer (some ⟨p,0,none⟩),.int .i64 (i:Nat)] w (DoesA w0 p c v w bs (f i))
def fstB (f:Nat->List Int):Nat->List Int
 | 0=>[]
 | k+1=>fstB f k++f k
theorem fstB_le (f : Nat → List Int) : ∀ (k n : Nat), k ≤ n → (fstB f k).length ≤ (fstB f n).length
  | k, 0, h => by obtain rfl : k = 0 := by omega
                  exact Nat.le_refl _
  | k, n + 1, h => by
    rcases Nat.lt_or_eq_of_le h with h1 | rfl
    · have := fstB_le f k n (by omega)
      show _ ≤ (fstB f n ++ f n).length
      rw [List.length_append]; omega
    · exact Nat.le_refl _
def insideB (id:Int) (n:Nat) (f:Nat->List Int):List Int:=(if id=8 then [] else Leb.uB (n:Int))++fstB f n
end Enc
set_option maxRecDepth 100000 in
set_option maxHeartbeats 4000000 in
theorem wSec1 (w0:World) (p:Nat) (c:Nat->Value) (v:Value) (bs:List Int) (n:Nat) (f:Nat->List Int) (qS qW:Nat) (w:World) (h:WS w0 p c v bs w) (hE:EntC w0 p c 34 n f)
  (hS:Bx w qS 66 #[.int .i64 1,.int .i64 n,.func (.func 34) #[.pointer (some ⟨p,0,none⟩)] #[]]) (hW:Bx w qW 58 #[.pointer (some ⟨p,0,none⟩)]) (n1:qS≠p) (n2:qW≠p) (n3:some qS≠v.ownBlock) (n4:some qW≠v.ownBlock)
  (hnn:n<=1000000) (hlen:bs.length+(insideB 1 n f).length<=38900000000000) :
  Calls Tryd.prog 47 #[.pointer (some ⟨qS,0,none⟩),.pointer (some ⟨qW,0,none⟩)] w (DoesA w0 p c v w bs (insideB 1 n f)):=by
 have hlen':bs.length+(Leb.uB (n:Int)++fstB f n).length<=38900000000000:=hlen
 have k0:=hS.cell 0 _ rfl
 have k1:=hS.cell 1 _ rfl
 have k2:=hS.cell 2 _ rfl
 have kw:=hW.cell 0 _ rfl
 have HE:=hideR hE
 have HH:=hideR (⟨hS,hW,n1,n2,n3,n4⟩:Bx w qS 66 #[.int .i64 1,.int .i64 n,.func (.func 34) #[.pointer (some ⟨p,0,none⟩)] #[]]/\Bx w qW 58 #[.pointer (some ⟨p,0,none⟩)]/\qS≠p/\qW≠p/\some qS≠v.ownBlock/\some qW≠v.ownBlock)
 have HLEN:=hideR hlen'
 show Calls Tryd.prog 47 #[.pointer (some ⟨qS,0,none⟩),.pointer (some ⟨qW,0,none⟩)] w (DoesA w0 p c v w bs (Leb.uB (n:Int)++fstB f n))
 have hten:=Leb.uB_ten (n:=(n:Int)) (by omega) (by omega)
 have HC1:=hideR (wU w0 p c v bs (n:Int) w h (by omega) (by omega) (by rw [List.length_append] at hlen';omega))
 clear h hE hS hW n1 n2 n3 n4 hlen hlen'
 go_enter Tryd.func47,Tryd.ntmps47
 go_wp2_with fail
 refine HC1.out.mono ?_
 rintro e w1 ⟨v1,rfl,hh,kk⟩
 have HS0:=hideR hh
 have HK0:=hideR kk
 have HSO0:Hid (So bs (Leb.uB (n:Int)++fstB f 0) (bs++Leb.uB (n:Int))):=hideR (by have h3:=(So.refl bs).app (Leb.uB (n:Int));rw [List.nil_append] at h3;rw [show fstB f 0 = [] from rfl,List.append_nil];exact h3)
 clear hh kk HC1 k0 k1 k2 kw
 go_wp2_with fail
 go_loopw [2] (fun i wr=>∃(j:Nat) (v3:Value) (b3:List Int),j<=n/\i=.int .i64 j/\Hid (WS w0 p c v3 b3 wr)/\Hid (Kept p v w v3 wr)/\Hid (So bs (Leb.uB (n:Int)++fstB f j) b3)) (fun i _=>n-(Lib.intOf i).toNat)
 case atStart=>exact ⟨0,_,_,by omega,rfl,HS0,HK0,HSO0⟩
 case round =>
  clear HS0 HK0 HSO0
  obtain ⟨j,v3,b3,hj,rfl,HWS,HKW,HSO⟩:=hrel
  obtain ⟨bS,_⟩:=HKW.out.bx HH.out.1 HH.out.2.2.1 HH.out.2.2.2.2.1
  obtain ⟨bW,_⟩:=HKW.out.bx HH.out.2.1 HH.out.2.2.2.1 HH.out.2.2.2.2.2
  have k1:=bS.cell 1 _ rfl
  have k2:=bS.cell 2 _ rfl
  have kw:=bW.cell 0 _ rfl
  clear bS bW
  have hpart:(Leb.uB (n:Int)++fstB f j).length<=(Leb.uB (n:Int)++fstB f n).length:=by rw [List.length_append,List.length_append];have:=fstB_le f j n hj;omega
  have hb3:b3.length<=38900000000000:=by have h1:=HSO.out.2;have h2:=HLEN.out;omega
  by_cases hgo:j<n
  ·have HC:=hideR (wFull w0 p c v3 b3 wr HWS.out (by omega))
   go_wp2_with fail
   refine HC.out.mono ?_
   rintro e w3 ⟨rfl,rfl⟩
   clear HC
   by_cases hfull:262144<b3.length
   ·rw [decide_eq_true hfull]
    have HF:Hid (So bs (Leb.uB (n:Int)++fstB f n) b3):=hideR ⟨.inr ⟨hfull,by have h1:=HSO.out.2;omega,HSO.out.1.le⟩,by have h1:=HSO.out.2;omega⟩
    clear hfull
    go_wp2
    go_end0
    exact ⟨_,_,rfl,HWS.out,HKW.out,HF.out.1,HF.out.2⟩
   ·rw [decide_eq_false hfull]
    clear hfull
    have HC:=hideR (HE.out j v3 b3 w3 hgo HWS.out (by
     have h1:=HSO.out.2
     have h2:=fstB_le f (j+1) n (by omega)
     have h3:=HLEN.out
     rw [show fstB f (j+1)=fstB f j++f j from rfl] at h2
     simp only [List.length_append] at h1 h2 h3
     omega))
    go_wp2_with fail
    refine HC.out.mono ?_
    rintro e w4 ⟨v4,b4,rfl,hh,kk,ha,hl⟩
    have HS4:=hideR hh
    have HK4:=hideR (HKW.out.trans kk)
    have HSO4:Hid (So bs (Leb.uB (n:Int)++fstB f (j+1)) b4):=hideR (by rw [show fstB f (j+1)=fstB f j++f j from rfl,<- List.append_assoc];exact HSO.out.adds ha hl)
    clear hh kk ha hl HC HWS HKW HSO k1 k2 kw
    go_wp2
    go_roundw
    case rel=>exact ⟨j+1,v4,b4,by omega,by go_num,HS4,HK4,HSO4⟩
    case measure=>simp [Lib.intOf];omega
  ·obtain rfl:n=j:=by omega
   go_wp2
   go_end0
   exact ⟨_,_,rfl,HWS.out,HKW.out,HSO.out.1,HSO.out.2⟩
set_option maxRecDepth 100000 in
set_option maxHeartbeats 4000000 in
theorem wSec2 (w0:World) (p:Nat) (c:Nat->Value) (v:Value) (bs:List Int) (n:Nat) (f:Nat->List Int) (qS qW:Nat) (w:World) (h:WS w0 p c v bs w) (hE:EntC w0 p c 35 n f)
  (hS:Bx w qS 66 #[.int .i64 2,.int .i64 n,.func (.func 35) #[.pointer (some ⟨p,0,none⟩)] #[]]) (hW:Bx w qW 58 #[.pointer (some ⟨p,0,none⟩)]) (n1:qS≠p) (n2:qW≠p) (n3:some qS≠v.ownBlock) (n4:some qW≠v.ownBlock)
  (hnn:n<=1000000) (hlen:bs.length+(insideB 2 n f).length<=38900000000000) :
  Calls Tryd.prog 47 #[.pointer (some ⟨qS,0,none⟩),.pointer (some ⟨qW,0,none⟩)] w (DoesA w0 p c v w bs (insideB 2 n f)):=by
 have hlen':bs.length+(Leb.uB (n:Int)++fstB f n).length<=38900000000000:=hlen
 have k0:=hS.cell 0 _ rfl
 have k1:=hS.cell 1 _ rfl
 have k2:=hS.cell 2 _ rfl
 have kw:=hW.cell 0 _ rfl
 have HE:=hideR hE
 have HH:=hideR (⟨hS,hW,n1,n2,n3,n4⟩:Bx w qS 66 #[.int .i64 2,.int .i64 n,.func (.func 35) #[.pointer (some ⟨p,0,none⟩)] #[]]/\Bx w qW 58 #[.pointer (some ⟨p,0,none⟩)]/\qS≠p/\qW≠p/\some qS≠v.ownBlock/\some qW≠v.ownBlock)
 have HLEN:=hideR hlen'
 show Calls Tryd.prog 47 #[.pointer (some ⟨qS,0,none⟩),.pointer (some ⟨qW,0,none⟩)] w (DoesA w0 p c v w bs (Leb.uB (n:Int)++fstB f n))
 have hten:=Leb.uB_ten (n:=(n:Int)) (by omega) (by omega)
 have HC1:=hideR (wU w0 p c v bs (n:Int) w h (by omega) (by omega) (by rw [List.length_append] at hlen';omega))
 clear h hE hS hW n1 n2 n3 n4 hlen hlen'
 go_enter Tryd.func47,Tryd.ntmps47
 go_wp2_with fail
 refine HC1.out.mono ?_
 rintro e w1 ⟨v1,rfl,hh,kk⟩
 have HS0:=hideR hh
 have HK0:=hideR kk
 have HSO0:Hid (So bs (Leb.uB (n:Int)++fstB f 0) (bs++Leb.uB (n:Int))):=hideR (by have h3:=(So.refl bs).app (Leb.uB (n:Int));rw [List.nil_append] at h3;rw [show fstB f 0 = [] from rfl,List.append_nil];exact h3)
 clear hh kk HC1 k0 k1 k2 kw
 go_wp2_with fail
 go_loopw [2] (fun i wr=>∃(j:Nat) (v3:Value) (b3:List Int),j<=n/\i=.int .i64 j/\Hid (WS w0 p c v3 b3 wr)/\Hid (Kept p v w v3 wr)/\Hid (So bs (Leb.uB (n:Int)++fstB f j) b3)) (fun i _=>n-(Lib.intOf i).toNat)
 case atStart=>exact ⟨0,_,_,by omega,rfl,HS0,HK0,HSO0⟩
 case round =>
  clear HS0 HK0 HSO0
  obtain ⟨j,v3,b3,hj,rfl,HWS,HKW,HSO⟩:=hrel
  obtain ⟨bS,_⟩:=HKW.out.bx HH.out.1 HH.out.2.2.1 HH.out.2.2.2.2.1
  obtain ⟨bW,_⟩:=HKW.out.bx HH.out.2.1 HH.out.2.2.2.1 HH.out.2.2.2.2.2
  have k1:=bS.cell 1 _ rfl
  have k2:=bS.cell 2 _ rfl
  have kw:=bW.cell 0 _ rfl
  clear bS bW
  have hpart:(Leb.uB (n:Int)++fstB f j).length<=(Leb.uB (n:Int)++fstB f n).length:=by rw [List.length_append,List.length_append];have:=fstB_le f j n hj;omega
  have hb3:b3.length<=38900000000000:=by have h1:=HSO.out.2;have h2:=HLEN.out;omega
  by_cases hgo:j<n
  ·have HC:=hideR (wFull w0 p c v3 b3 wr HWS.out (by omega))
   go_wp2_with fail
   refine HC.out.mono ?_
   rintro e w3 ⟨rfl,rfl⟩
   clear HC
   by_cases hfull:262144<b3.length
   ·rw [decide_eq_true hfull]
    have HF:Hid (So bs (Leb.uB (n:Int)++fstB f n) b3):=hideR ⟨.inr ⟨hfull,by have h1:=HSO.out.2;omega,HSO.out.1.le⟩,by have h1:=HSO.out.2;omega⟩
    clear hfull
    go_wp2
    go_end0
    exact ⟨_,_,rfl,HWS.out,HKW.out,HF.out.1,HF.out.2⟩
   ·rw [decide_eq_false hfull]
    clear hfull
    have HC:=hideR (HE.out j v3 b3 w3 hgo HWS.out (by
     have h1:=HSO.out.2
     have h2:=fstB_le f (j+1) n (by omega)
     have h3:=HLEN.out
     rw [show fstB f (j+1)=fstB f j++f j from rfl] at h2
     simp only [List.length_append] at h1 h2 h3
     omega))
    go_wp2_with fail
    refine HC.out.mono ?_
    rintro e w4 ⟨v4,b4,rfl,hh,kk,ha,hl⟩
    have HS4:=hideR hh
    have HK4:=hideR (HKW.out.trans kk)
    have HSO4:Hid (So bs (Leb.uB (n:Int)++fstB f (j+1)) b4):=hideR (by rw [show fstB f (j+1)=fstB f j++f j from rfl,<- List.append_assoc];exact HSO.out.adds ha hl)
    clear hh kk ha hl HC HWS HKW HSO k1 k2 kw
    go_wp2
    go_roundw
    case rel=>exact ⟨j+1,v4,b4,by omega,by go_num,HS4,HK4,HSO4⟩
    case measure=>simp [Lib.intOf];omega
  ·obtain rfl:n=j:=by omega
   go_wp2
   go_end0
   exact ⟨_,_,rfl,HWS.out,HKW.out,HSO.out.1,HSO.out.2⟩
set_option maxRecDepth 100000 in
set_option maxHeartbeats 4000000 in
theorem wSec3 (w0:World) (p:Nat) (c:Nat->Value) (v:Value) (bs:List Int) (n:Nat) (f:Nat->List Int) (qS qW:Nat) (w:World) (h:WS w0 p c v bs w) (hE:EntC w0 p c 36 n f)
  (hS:Bx w qS 66 #[.int .i64 3,.int .i64 n,.func (.func 36) #[.pointer (some ⟨p,0,none⟩)] #[]]) (hW:Bx w qW 58 #[.pointer (some ⟨p,0,none⟩)]) (n1:qS≠p) (n2:qW≠p) (n3:some qS≠v.ownBlock) (n4:some qW≠v.ownBlock)
  (hnn:n<=1000000) (hlen:bs.length+(insideB 3 n f).length<=38900000000000) :
  Calls Tryd.prog 47 #[.pointer (some ⟨qS,0,none⟩),.pointer (some ⟨qW,0,none⟩)] w (DoesA w0 p c v w bs (insideB 3 n f)):=by
 have hlen':bs.length+(Leb.uB (n:Int)++fstB f n).length<=38900000000000:=hlen
 have k0:=hS.cell 0 _ rfl
 have k1:=hS.cell 1 _ rfl
 have k2:=hS.cell 2 _ rfl
 have kw:=hW.cell 0 _ rfl
 have HE:=hideR hE
 have HH:=hideR (⟨hS,hW,n1,n2,n3,n4⟩:Bx w qS 66 #[.int .i64 3,.int .i64 n,.func (.func 36) #[.pointer (some ⟨p,0,none⟩)] #[]]/\Bx w qW 58 #[.pointer (some ⟨p,0,none⟩)]/\qS≠p/\qW≠p/\some qS≠v.ownBlock/\some qW≠v.ownBlock)
 have HLEN:=hideR hlen'
 show Calls Tryd.prog 47 #[.pointer (some ⟨qS,0,none⟩),.pointer (some ⟨qW,0,none⟩)] w (DoesA w0 p c v w bs (Leb.uB (n:Int)++fstB f n))
 have hten:=Leb.uB_ten (n:=(n:Int)) (by omega) (by omega)
 have HC1:=hideR (wU w0 p c v bs (n:Int) w h (by omega) (by omega) (by rw [List.length_append] at hlen';omega))
 clear h hE hS hW n1 n2 n3 n4 hlen hlen'
 go_enter Tryd.func47,Tryd.ntmps47
 go_wp2_with fail
 refine HC1.out.mono ?_
 rintro e w1 ⟨v1,rfl,hh,kk⟩
 have HS0:=hideR hh
 have HK0:=hideR kk
 have HSO0:Hid (So bs (Leb.uB (n:Int)++fstB f 0) (bs++Leb.uB (n:Int))):=hideR (by have h3:=(So.refl bs).app (Leb.uB (n:Int));rw [List.nil_append] at h3;rw [show fstB f 0 = [] from rfl,List.append_nil];exact h3)
 clear hh kk HC1 k0 k1 k2 kw
 go_wp2_with fail
 go_loopw [2] (fun i wr=>∃(j:Nat) (v3:Value) (b3:List Int),j<=n/\i=.int .i64 j/\Hid (WS w0 p c v3 b3 wr)/\Hid (Kept p v w v3 wr)/\Hid (So bs (Leb.uB (n:Int)++fstB f j) b3)) (fun i _=>n-(Lib.intOf i).toNat)
 case atStart=>exact ⟨0,_,_,by omega,rfl,HS0,HK0,HSO0⟩
 case round =>
  clear HS0 HK0 HSO0
  obtain ⟨j,v3,b3,hj,rfl,HWS,HKW,HSO⟩:=hrel
  obtain ⟨bS,_⟩:=HKW.out.bx HH.out.1 HH.out.2.2.1 HH.out.2.2.2.2.1
  obtain ⟨bW,_⟩:=HKW.out.bx HH.out.2.1 HH.out.2.2.2.1 HH.out.2.2.2.2.2
  have k1:=bS.cell 1 _ rfl
  have k2:=bS.cell 2 _ rfl
  have kw:=bW.cell 0 _ rfl
  clear bS bW
  have hpart:(Leb.uB (n:Int)++fstB f j).length<=(Leb.uB (n:Int)++fstB f n).length:=by rw [List.length_append,List.length_append];have:=fstB_le f j n hj;omega
  have hb3:b3.length<=38900000000000:=by have h1:=HSO.out.2;have h2:=HLEN.out;omega
  by_cases hgo:j<n
  ·have HC:=hideR (wFull w0 p c v3 b3 wr HWS.out (by omega))
   go_wp2_with fail
   refine HC.out.mono ?_
   rintro e w3 ⟨rfl,rfl⟩
   clear HC
   by_cases hfull:262144<b3.length
   ·rw [decide_eq_true hfull]
    have HF:Hid (So bs (Leb.uB (n:Int)++fstB f n) b3):=hideR ⟨.inr ⟨hfull,by have h1:=HSO.out.2;omega,HSO.out.1.le⟩,by have h1:=HSO.out.2;omega⟩
    clear hfull
    go_wp2
    go_end0
    exact ⟨_,_,rfl,HWS.out,HKW.out,HF.out.1,HF.out.2⟩
   ·rw [decide_eq_false hfull]
    clear hfull
    have HC:=hideR (HE.out j v3 b3 w3 hgo HWS.out (by
     have h1:=HSO.out.2
     have h2:=fstB_le f (j+1) n (by omega)
     have h3:=HLEN.out
     rw [show fstB f (j+1)=fstB f j++f j from rfl] at h2
     simp only [List.length_append] at h1 h2 h3
     omega))
    go_wp2_with fail
    refine HC.out.mono ?_
    rintro e w4 ⟨v4,b4,rfl,hh,kk,ha,hl⟩
    have HS4:=hideR hh
    have HK4:=hideR (HKW.out.trans kk)
    have HSO4:Hid (So bs (Leb.uB (n:Int)++fstB f (j+1)) b4):=hideR (by rw [show fstB f (j+1)=fstB f j++f j from rfl,<- List.append_assoc];exact HSO.out.adds ha hl)
    clear hh kk ha hl HC HWS HKW HSO k1 k2 kw
    go_wp2
    go_roundw
    case rel=>exact ⟨j+1,v4,b4,by omega,by go_num,HS4,HK4,HSO4⟩
    case measure=>simp [Lib.intOf];omega
  ·obtain rfl:n=j:=by omega
   go_wp2
   go_end0
   exact ⟨_,_,rfl,HWS.out,HKW.out,HSO.out.1,HSO.out.2⟩
set_option maxRecDepth 100000 in
set_option maxHeartbeats 4000000 in
theorem wSec4 (w0:World) (p:Nat) (c:Nat->Value) (v:Value) (bs:List Int) (n:Nat) (f:Nat->List Int) (qS qW:Nat) (w:World) (h:WS w0 p c v bs w) (hE:EntC w0 p c 37 n f)
  (hS:Bx w qS 66 #[.int .i64 4,.int .i64 n,.func (.func 37) #[.pointer (some ⟨p,0,none⟩)] #[]]) (hW:Bx w qW 58 #[.pointer (some ⟨p,0,none⟩)]) (n1:qS≠p) (n2:qW≠p) (n3:some qS≠v.ownBlock) (n4:some qW≠v.ownBlock)
  (hnn:n<=1000000) (hlen:bs.length+(insideB 4 n f).length<=38900000000000) :
  Calls Tryd.prog 47 #[.pointer (some ⟨qS,0,none⟩),.pointer (some ⟨qW,0,none⟩)] w (DoesA w0 p c v w bs (insideB 4 n f)):=by
 have hlen':bs.length+(Leb.uB (n:Int)++fstB f n).length<=38900000000000:=hlen
 have k0:=hS.cell 0 _ rfl
 have k1:=hS.cell 1 _ rfl
 have k2:=hS.cell 2 _ rfl
 have kw:=hW.cell 0 _ rfl
 have HE:=hideR hE
 have HH:=hideR (⟨hS,hW,n1,n2,n3,n4⟩:Bx w qS 66 #[.int .i64 4,.int .i64 n,.func (.func 37) #[.pointer (some ⟨p,0,none⟩)] #[]]/\Bx w qW 58 #[.pointer (some ⟨p,0,none⟩)]/\qS≠p/\qW≠p/\some qS≠v.ownBlock/\some qW≠v.ownBlock)
 have HLEN:=hideR hlen'
 show Calls Tryd.prog 47 #[.pointer (some ⟨qS,0,none⟩),.pointer (some ⟨qW,0,none⟩)] w (DoesA w0 p c v w bs (Leb.uB (n:Int)++fstB f n))
 have hten:=Leb.uB_ten (n:=(n:Int)) (by omega) (by omega)
 have HC1:=hideR (wU w0 p c v bs (n:Int) w h (by omega) (by omega) (by rw [List.length_append] at hlen';omega))
 clear h hE hS hW n1 n2 n3 n4 hlen hlen'
 go_enter Tryd.func47,Tryd.ntmps47
 go_wp2_with fail
 refine HC1.out.mono ?_
 rintro e w1 ⟨v1,rfl,hh,kk⟩
 have HS0:=hideR hh
 have HK0:=hideR kk
 have HSO0:Hid (So bs (Leb.uB (n:Int)++fstB f 0) (bs++Leb.uB (n:Int))):=hideR (by have h3:=(So.refl bs).app (Leb.uB (n:Int));rw [List.nil_append] at h3;rw [show fstB f 0 = [] from rfl,List.append_nil];exact h3)
 clear hh kk HC1 k0 k1 k2 kw
 go_wp2_with fail
 go_loopw [2] (fun i wr=>∃(j:Nat) (v3:Value) (b3:List Int),j<=n/\i=.int .i64 j/\Hid (WS w0 p c v3 b3 wr)/\Hid (Kept p v w v3 wr)/\Hid (So bs (Leb.uB (n:Int)++fstB f j) b3)) (fun i _=>n-(Lib.intOf i).toNat)
 case atStart=>exact ⟨0,_,_,by omega,rfl,HS0,HK0,HSO0⟩
 case round =>
  clear HS0 HK0 HSO0
  obtain ⟨j,v3,b3,hj,rfl,HWS,HKW,HSO⟩:=hrel
  obtain ⟨bS,_⟩:=HKW.out.bx HH.out.1 HH.out.2.2.1 HH.out.2.2.2.2.1
  obtain ⟨bW,_⟩:=HKW.out.bx HH.out.2.1 HH.out.2.2.2.1 HH.out.2.2.2.2.2
  have k1:=bS.cell 1 _ rfl
  have k2:=bS.cell 2 _ rfl
  have kw:=bW.cell 0 _ rfl
  clear bS bW
  have hpart:(Leb.uB (n:Int)++fstB f j).length<=(Leb.uB (n:Int)++fstB f n).length:=by rw [List.length_append,List.length_append];have:=fstB_le f j n hj;omega
  have hb3:b3.length<=38900000000000:=by have h1:=HSO.out.2;have h2:=HLEN.out;omega
  by_cases hgo:j<n
  ·have HC:=hideR (wFull w0 p c v3 b3 wr HWS.out (by omega))
   go_wp2_with fail
   refine HC.out.mono ?_
   rintro e w3 ⟨rfl,rfl⟩
   clear HC
   by_cases hfull:262144<b3.length
   ·rw [decide_eq_true hfull]
    have HF:Hid (So bs (Leb.uB (n:Int)++fstB f n) b3):=hideR ⟨.inr ⟨hfull,by have h1:=HSO.out.2;omega,HSO.out.1.le⟩,by have h1:=HSO.out.2;omega⟩
    clear hfull
    go_wp2
    go_end0
    exact ⟨_,_,rfl,HWS.out,HKW.out,HF.out.1,HF.out.2⟩
   ·rw [decide_eq_false hfull]
    clear hfull
    have HC:=hideR (HE.out j v3 b3 w3 hgo HWS.out (by
     have h1:=HSO.out.2
     have h2:=fstB_le f (j+1) n (by omega)
     have h3:=HLEN.out
     rw [show fstB f (j+1)=fstB f j++f j from rfl] at h2
     simp only [List.length_append] at h1 h2 h3
     omega))
    go_wp2_with fail
    refine HC.out.mono ?_
    rintro e w4 ⟨v4,b4,rfl,hh,kk,ha,hl⟩
    have HS4:=hideR hh
    have HK4:=hideR (HKW.out.trans kk)
    have HSO4:Hid (So bs (Leb.uB (n:Int)++fstB f (j+1)) b4):=hideR (by rw [show fstB f (j+1)=fstB f j++f j from rfl,<- List.append_assoc];exact HSO.out.adds ha hl)
    clear hh kk ha hl HC HWS HKW HSO k1 k2 kw
    go_wp2
    go_roundw
    case rel=>exact ⟨j+1,v4,b4,by omega,by go_num,HS4,HK4,HSO4⟩
    case measure=>simp [Lib.intOf];omega
  ·obtain rfl:n=j:=by omega
   go_wp2
   go_end0
   exact ⟨_,_,rfl,HWS.out,HKW.out,HSO.out.1,HSO.out.2⟩
set_option maxRecDepth 100000 in
set_option maxHeartbeats 4000000 in
theorem wSec5 (w0:World) (p:Nat) (c:Nat->Value) (v:Value) (bs:List Int) (n:Nat) (f:Nat->List Int) (qS qW:Nat) (w:World) (h:WS w0 p c v bs w) (hE:EntC w0 p c 38 n f)
  (hS:Bx w qS 66 #[.int .i64 5,.int .i64 n,.func (.func 38) #[.pointer (some ⟨p,0,none⟩)] #[]]) (hW:Bx w qW 58 #[.pointer (some ⟨p,0,none⟩)]) (n1:qS≠p) (n2:qW≠p) (n3:some qS≠v.ownBlock) (n4:some qW≠v.ownBlock)
  (hnn:n<=1000000) (hlen:bs.length+(insideB 5 n f).length<=38900000000000) :
  Calls Tryd.prog 47 #[.pointer (some ⟨qS,0,none⟩),.pointer (some ⟨qW,0,none⟩)] w (DoesA w0 p c v w bs (insideB 5 n f)):=by
 have hlen':bs.length+(Leb.uB (n:Int)++fstB f n).length<=38900000000000:=hlen
 have k0:=hS.cell 0 _ rfl
 have k1:=hS.cell 1 _ rfl
 have k2:=hS.cell 2 _ rfl
 have kw:=hW.cell 0 _ rfl
 have HE:=hideR hE
 have HH:=hideR (⟨hS,hW,n1,n2,n3,n4⟩:Bx w qS 66 #[.int .i64 5,.int .i64 n,.func (.func 38) #[.pointer (some ⟨p,0,none⟩)] #[]]/\Bx w qW 58 #[.pointer (some ⟨p,0,none⟩)]/\qS≠p/\qW≠p/\some qS≠v.ownBlock/\some qW≠v.ownBlock)
 have HLEN:=hideR hlen'
 show Calls Tryd.prog 47 #[.pointer (some ⟨qS,0,none⟩),.pointer (some ⟨qW,0,none⟩)] w (DoesA w0 p c v w bs (Leb.uB (n:Int)++fstB f n))
 have hten:=Leb.uB_ten (n:=(n:Int)) (by omega) (by omega)
 have HC1:=hideR (wU w0 p c v bs (n:Int) w h (by omega) (by omega) (by rw [List.length_append] at hlen';omega))
 clear h hE hS hW n1 n2 n3 n4 hlen hlen'
 go_enter Tryd.func47,Tryd.ntmps47
 go_wp2_with fail
 refine HC1.out.mono ?_
 rintro e w1 ⟨v1,rfl,hh,kk⟩
 have HS0:=hideR hh
 have HK0:=hideR kk
 have HSO0:Hid (So bs (Leb.uB (n:Int)++fstB f 0) (bs++Leb.uB (n:Int))):=hideR (by have h3:=(So.refl bs).app (Leb.uB (n:Int));rw [List.nil_append] at h3;rw [show fstB f 0 = [] from rfl,List.append_nil];exact h3)
 clear hh kk HC1 k0 k1 k2 kw
 go_wp2_with fail
 go_loopw [2] (fun i wr=>∃(j:Nat) (v3:Value) (b3:List Int),j<=n/\i=.int .i64 j/\Hid (WS w0 p c v3 b3 wr)/\Hid (Kept p v w v3 wr)/\Hid (So bs (Leb.uB (n:Int)++fstB f j) b3)) (fun i _=>n-(Lib.intOf i).toNat)
 case atStart=>exact ⟨0,_,_,by omega,rfl,HS0,HK0,HSO0⟩
 case round =>
  clear HS0 HK0 HSO0
  obtain ⟨j,v3,b3,hj,rfl,HWS,HKW,HSO⟩:=hrel
  obtain ⟨bS,_⟩:=HKW.out.bx HH.out.1 HH.out.2.2.1 HH.out.2.2.2.2.1
  obtain ⟨bW,_⟩:=HKW.out.bx HH.out.2.1 HH.out.2.2.2.1 HH.out.2.2.2.2.2
  have k1:=bS.cell 1 _ rfl
  have k2:=bS.cell 2 _ rfl
  have kw:=bW.cell 0 _ rfl
  clear bS bW
  have hpart:(Leb.uB (n:Int)++fstB f j).length<=(Leb.uB (n:Int)++fstB f n).length:=by rw [List.length_append,List.length_append];have:=fstB_le f j n hj;omega
  have hb3:b3.length<=38900000000000:=by have h1:=HSO.out.2;have h2:=HLEN.out;omega
  by_cases hgo:j<n
  ·have HC:=hideR (wFull w0 p c v3 b3 wr HWS.out (by omega))
   go_wp2_with fail
   refine HC.out.mono ?_
   rintro e w3 ⟨rfl,rfl⟩
   clear HC
   by_cases hfull:262144<b3.length
   ·rw [decide_eq_true hfull]
    have HF:Hid (So bs (Leb.uB (n:Int)++fstB f n) b3):=hideR ⟨.inr ⟨hfull,by have h1:=HSO.out.2;omega,HSO.out.1.le⟩,by have h1:=HSO.out.2;omega⟩
    clear hfull
    go_wp2
    go_end0
    exact ⟨_,_,rfl,HWS.out,HKW.out,HF.out.1,HF.out.2⟩
   ·rw [decide_eq_false hfull]
    clear hfull
    have HC:=hideR (HE.out j v3 b3 w3 hgo HWS.out (by
     have h1:=HSO.out.2
     have h2:=fstB_le f (j+1) n (by omega)
     have h3:=HLEN.out
     rw [show fstB f (j+1)=fstB f j++f j from rfl] at h2
     simp only [List.length_append] at h1 h2 h3
     omega))
    go_wp2_with fail
    refine HC.out.mono ?_
    rintro e w4 ⟨v4,b4,rfl,hh,kk,ha,hl⟩
    have HS4:=hideR hh
    have HK4:=hideR (HKW.out.trans kk)
    have HSO4:Hid (So bs (Leb.uB (n:Int)++fstB f (j+1)) b4):=hideR (by rw [show fstB f (j+1)=fstB f j++f j from rfl,<- List.append_assoc];exact HSO.out.adds ha hl)
    clear hh kk ha hl HC HWS HKW HSO k1 k2 kw
    go_wp2
    go_roundw
    case rel=>exact ⟨j+1,v4,b4,by omega,by go_num,HS4,HK4,HSO4⟩
    case measure=>simp [Lib.intOf];omega
  ·obtain rfl:n=j:=by omega
   go_wp2
   go_end0
   exact ⟨_,_,rfl,HWS.out,HKW.out,HSO.out.1,HSO.out.2⟩
set_option maxRecDepth 100000 in
set_option maxHeartbeats 4000000 in
theorem wSec6 (w0:World) (p:Nat) (c:Nat->Value) (v:Value) (bs:List Int) (n:Nat) (f:Nat->List Int) (qS qW:Nat) (w:World) (h:WS w0 p c v bs w) (hE:EntC w0 p c 39 n f)
  (hS:Bx w qS 66 #[.int .i64 6,.int .i64 n,.func (.func 39) #[.pointer (some ⟨p,0,none⟩)] #[]]) (hW:Bx w qW 58 #[.pointer (some ⟨p,0,none⟩)]) (n1:qS≠p) (n2:qW≠p) (n3:some qS≠v.ownBlock) (n4:some qW≠v.ownBlock)
  (hnn:n<=1000000) (hlen:bs.length+(insideB 6 n f).length<=38900000000000) :
  Calls Tryd.prog 47 #[.pointer (some ⟨qS,0,none⟩),.pointer (some ⟨qW,0,none⟩)] w (DoesA w0 p c v w bs (insideB 6 n f)):=by
 have hlen':bs.length+(Leb.uB (n:Int)++fstB f n).length<=38900000000000:=hlen
 have k0:=hS.cell 0 _ rfl
 have k1:=hS.cell 1 _ rfl
 have k2:=hS.cell 2 _ rfl
 have kw:=hW.cell 0 _ rfl
 have HE:=hideR hE
 have HH:=hideR (⟨hS,hW,n1,n2,n3,n4⟩:Bx w qS 66 #[.int .i64 6,.int .i64 n,.func (.func 39) #[.pointer (some ⟨p,0,none⟩)] #[]]/\Bx w qW 58 #[.pointer (some ⟨p,0,none⟩)]/\qS≠p/\qW≠p/\some qS≠v.ownBlock/\some qW≠v.ownBlock)
 have HLEN:=hideR hlen'
 show Calls Tryd.prog 47 #[.pointer (some ⟨qS,0,none⟩),.pointer (some ⟨qW,0,none⟩)] w (DoesA w0 p c v w bs (Leb.uB (n:Int)++fstB f n))
 have hten:=Leb.uB_ten (n:=(n:Int)) (by omega) (by omega)
 have HC1:=hideR (wU w0 p c v bs (n:Int) w h (by omega) (by omega) (by rw [List.length_append] at hlen';omega))
 clear h hE hS hW n1 n2 n3 n4 hlen hlen'
 go_enter Tryd.func47,Tryd.ntmps47
 go_wp2_with fail
 refine HC1.out.mono ?_
 rintro e w1 ⟨v1,rfl,hh,kk⟩
 have HS0:=hideR hh
 have HK0:=hideR kk
 have HSO0:Hid (So bs (Leb.uB (n:Int)++fstB f 0) (bs++Leb.uB (n:Int))):=hideR (by have h3:=(So.refl bs).app (Leb.uB (n:Int));rw [List.nil_append] at h3;rw [show fstB f 0 = [] from rfl,List.append_nil];exact h3)
 clear hh kk HC1 k0 k1 k2 kw
 go_wp2_with fail
 go_loopw [2] (fun i wr=>∃(j:Nat) (v3:Value) (b3:List Int),j<=n/\i=.int .i64 j/\Hid (WS w0 p c v3 b3 wr)/\Hid (Kept p v w v3 wr)/\Hid (So bs (Leb.uB (n:Int)++fstB f j) b3)) (fun i _=>n-(Lib.intOf i).toNat)
 case atStart=>exact ⟨0,_,_,by omega,rfl,HS0,HK0,HSO0⟩
 case round =>
  clear HS0 HK0 HSO0
  obtain ⟨j,v3,b3,hj,rfl,HWS,HKW,HSO⟩:=hrel
  obtain ⟨bS,_⟩:=HKW.out.bx HH.out.1 HH.out.2.2.1 HH.out.2.2.2.2.1
  obtain ⟨bW,_⟩:=HKW.out.bx HH.out.2.1 HH.out.2.2.2.1 HH.out.2.2.2.2.2
  have k1:=bS.cell 1 _ rfl
  have k2:=bS.cell 2 _ rfl
  have kw:=bW.cell 0 _ rfl
  clear bS bW
  have hpart:(Leb.uB (n:Int)++fstB f j).length<=(Leb.uB (n:Int)++fstB f n).length:=by rw [List.length_append,List.length_append];have:=fstB_le f j n hj;omega
  have hb3:b3.length<=38900000000000:=by have h1:=HSO.out.2;have h2:=HLEN.out;omega
  by_cases hgo:j<n
  ·have HC:=hideR (wFull w0 p c v3 b3 wr HWS.out (by omega))
   go_wp2_with fail
   refine HC.out.mono ?_
   rintro e w3 ⟨rfl,rfl⟩
   clear HC
   by_cases hfull:262144<b3.length
   ·rw [decide_eq_true hfull]
    have HF:Hid (So bs (Leb.uB (n:Int)++fstB f n) b3):=hideR ⟨.inr ⟨hfull,by have h1:=HSO.out.2;omega,HSO.out.1.le⟩,by have h1:=HSO.out.2;omega⟩
    clear hfull
    go_wp2
    go_end0
    exact ⟨_,_,rfl,HWS.out,HKW.out,HF.out.1,HF.out.2⟩
   ·rw [decide_eq_false hfull]
    clear hfull
    have HC:=hideR (HE.out j v3 b3 w3 hgo HWS.out (by
     have h1:=HSO.out.2
     have h2:=fstB_le f (j+1) n (by omega)
     have h3:=HLEN.out
     rw [show fstB f (j+1)=fstB f j++f j from rfl] at h2
     simp only [List.length_append] at h1 h2 h3
     omega))
    go_wp2_with fail
    refine HC.out.mono ?_
    rintro e w4 ⟨v4,b4,rfl,hh,kk,ha,hl⟩
    have HS4:=hideR hh
    have HK4:=hideR (HKW.out.trans kk)
    have HSO4:Hid (So bs (Leb.uB (n:Int)++fstB f (j+1)) b4):=hideR (by rw [show fstB f (j+1)=fstB f j++f j from rfl,<- List.append_assoc];exact HSO.out.adds ha hl)
    clear hh kk ha hl HC HWS HKW HSO k1 k2 kw
    go_wp2
    go_roundw
    case rel=>exact ⟨j+1,v4,b4,by omega,by go_num,HS4,HK4,HSO4⟩
    case measure=>simp [Lib.intOf];omega
  ·obtain rfl:n=j:=by omega
   go_wp2
   go_end0
   exact ⟨_,_,rfl,HWS.out,HKW.out,HSO.out.1,HSO.out.2⟩
set_option maxRecDepth 100000 in
set_option maxHeartbeats 4000000 in
theorem wSec7 (w0:World) (p:Nat) (c:Nat->Value) (v:Value) (bs:List Int) (n:Nat) (f:Nat->List Int) (qS qW:Nat) (w:World) (h:WS w0 p c v bs w) (hE:EntC w0 p c 40 n f)
  (hS:Bx w qS 66 #[.int .i64 7,.int .i64 n,.func (.func 40) #[.pointer (some ⟨p,0,none⟩)] #[]]) (hW:Bx w qW 58 #[.pointer (some ⟨p,0,none⟩)]) (n1:qS≠p) (n2:qW≠p) (n3:some qS≠v.ownBlock) (n4:some qW≠v.ownBlock)
  (hnn:n<=1000000) (hlen:bs.length+(insideB 7 n f).length<=38900000000000) :
  Calls Tryd.prog 47 #[.pointer (some ⟨qS,0,none⟩),.pointer (some ⟨qW,0,none⟩)] w (DoesA w0 p c v w bs (insideB 7 n f)):=by
 have hlen':bs.length+(Leb.uB (n:Int)++fstB f n).length<=38900000000000:=hlen
 have k0:=hS.cell 0 _ rfl
 have k1:=hS.cell 1 _ rfl
 have k2:=hS.cell 2 _ rfl
 have kw:=hW.cell 0 _ rfl
 have HE:=hideR hE
 have HH:=hideR (⟨hS,hW,n1,n2,n3,n4⟩:Bx w qS 66 #[.int .i64 7,.int .i64 n,.func (.func 40) #[.pointer (some ⟨p,0,none⟩)] #[]]/\Bx w qW 58 #[.pointer (some ⟨p,0,none⟩)]/\qS≠p/\qW≠p/\some qS≠v.ownBlock/\some qW≠v.ownBlock)
 have HLEN:=hideR hlen'
 show Calls Tryd.prog 47 #[.pointer (some ⟨qS,0,none⟩),.pointer (some ⟨qW,0,none⟩)] w (DoesA w0 p c v w bs (Leb.uB (n:Int)++fstB f n))
 have hten:=Leb.uB_ten (n:=(n:Int)) (by omega) (by omega)
 have HC1:=hideR (wU w0 p c v bs (n:Int) w h (by omega) (by omega) (by rw [List.length_append] at hlen';omega))
 clear h hE hS hW n1 n2 n3 n4 hlen hlen'
 go_enter Tryd.func47,Tryd.ntmps47
 go_wp2_with fail
 refine HC1.out.mono ?_
 rintro e w1 ⟨v1,rfl,hh,kk⟩
 have HS0:=hideR hh
 have HK0:=hideR kk
 have HSO0:Hid (So bs (Leb.uB (n:Int)++fstB f 0) (bs++Leb.uB (n:Int))):=hideR (by have h3:=(So.refl bs).app (Leb.uB (n:Int));rw [List.nil_append] at h3;rw [show fstB f 0 = [] from rfl,List.append_nil];exact h3)
 clear hh kk HC1 k0 k1 k2 kw
 go_wp2_with fail
 go_loopw [2] (fun i wr=>∃(j:Nat) (v3:Value) (b3:List Int),j<=n/\i=.int .i64 j/\Hid (WS w0 p c v3 b3 wr)/\Hid (Kept p v w v3 wr)/\Hid (So bs (Leb.uB (n:Int)++fstB f j) b3)) (fun i _=>n-(Lib.intOf i).toNat)
 case atStart=>exact ⟨0,_,_,by omega,rfl,HS0,HK0,HSO0⟩
 case round =>
  clear HS0 HK0 HSO0
  obtain ⟨j,v3,b3,hj,rfl,HWS,HKW,HSO⟩:=hrel
  obtain ⟨bS,_⟩:=HKW.out.bx HH.out.1 HH.out.2.2.1 HH.out.2.2.2.2.1
  obtain ⟨bW,_⟩:=HKW.out.bx HH.out.2.1 HH.out.2.2.2.1 HH.out.2.2.2.2.2
  have k1:=bS.cell 1 _ rfl
  have k2:=bS.cell 2 _ rfl
  have kw:=bW.cell 0 _ rfl
  clear bS bW
  have hpart:(Leb.uB (n:Int)++fstB f j).length<=(Leb.uB (n:Int)++fstB f n).length:=by rw [List.length_append,List.length_append];have:=fstB_le f j n hj;omega
  have hb3:b3.length<=38900000000000:=by have h1:=HSO.out.2;have h2:=HLEN.out;omega
  by_cases hgo:j<n
  ·have HC:=hideR (wFull w0 p c v3 b3 wr HWS.out (by omega))
   go_wp2_with fail
   refine HC.out.mono ?_
   rintro e w3 ⟨rfl,rfl⟩
   clear HC
   by_cases hfull:262144<b3.length
   ·rw [decide_eq_true hfull]
    have HF:Hid (So bs (Leb.uB (n:Int)++fstB f n) b3):=hideR ⟨.inr ⟨hfull,by have h1:=HSO.out.2;omega,HSO.out.1.le⟩,by have h1:=HSO.out.2;omega⟩
    clear hfull
    go_wp2
    go_end0
    exact ⟨_,_,rfl,HWS.out,HKW.out,HF.out.1,HF.out.2⟩
   ·rw [decide_eq_false hfull]
    clear hfull
    have HC:=hideR (HE.out j v3 b3 w3 hgo HWS.out (by
     have h1:=HSO.out.2
     have h2:=fstB_le f (j+1) n (by omega)
     have h3:=HLEN.out
     rw [show fstB f (j+1)=fstB f j++f j from rfl] at h2
     simp only [List.length_append] at h1 h2 h3
     omega))
    go_wp2_with fail
    refine HC.out.mono ?_
    rintro e w4 ⟨v4,b4,rfl,hh,kk,ha,hl⟩
    have HS4:=hideR hh
    have HK4:=hideR (HKW.out.trans kk)
    have HSO4:Hid (So bs (Leb.uB (n:Int)++fstB f (j+1)) b4):=hideR (by rw [show fstB f (j+1)=fstB f j++f j from rfl,<- List.append_assoc];exact HSO.out.adds ha hl)
    clear hh kk ha hl HC HWS HKW HSO k1 k2 kw
    go_wp2
    go_roundw
    case rel=>exact ⟨j+1,v4,b4,by omega,by go_num,HS4,HK4,HSO4⟩
    case measure=>simp [Lib.intOf];omega
  ·obtain rfl:n=j:=by omega
   go_wp2
   go_end0
   exact ⟨_,_,rfl,HWS.out,HKW.out,HSO.out.1,HSO.out.2⟩
set_option maxRecDepth 100000 in
set_option maxHeartbeats 4000000 in
theorem wSec8 (w0:World) (p:Nat) (c:Nat->Value) (v:Value) (bs:List Int) (n:Nat) (f:Nat->List Int) (qS qW:Nat) (w:World) (h:WS w0 p c v bs w) (hE:EntC w0 p c 41 n f)
  (hS:Bx w qS 66 #[.int .i64 8,.int .i64 n,.func (.func 41) #[.pointer (some ⟨p,0,none⟩)] #[]]) (hW:Bx w qW 58 #[.pointer (some ⟨p,0,none⟩)]) (n1:qS≠p) (n2:qW≠p) (n3:some qS≠v.ownBlock) (n4:some qW≠v.ownBlock)
  (hnn:n<=1000000) (hlen:bs.length+(insideB 8 n f).length<=38900000000000) :
  Calls Tryd.prog 47 #[.pointer (some ⟨qS,0,none⟩),.pointer (some ⟨qW,0,none⟩)] w (DoesA w0 p c v w bs (insideB 8 n f)):=by
 have hlen':bs.length+(([]:List Int)++fstB f n).length<=38900000000000:=hlen
 have k0:=hS.cell 0 _ rfl
 have k1:=hS.cell 1 _ rfl
 have k2:=hS.cell 2 _ rfl
 have kw:=hW.cell 0 _ rfl
 have HE:=hideR hE
 have HH:=hideR (⟨hS,hW,n1,n2,n3,n4⟩:Bx w qS 66 #[.int .i64 8,.int .i64 n,.func (.func 41) #[.pointer (some ⟨p,0,none⟩)] #[]]/\Bx w qW 58 #[.pointer (some ⟨p,0,none⟩)]/\qS≠p/\qW≠p/\some qS≠v.ownBlock/\some qW≠v.ownBlock)
 have HLEN:=hideR hlen'
 show Calls Tryd.prog 47 #[.pointer (some ⟨qS,0,none⟩),.pointer (some ⟨qW,0,none⟩)] w (DoesA w0 p c v w bs (([]:List Int)++fstB f n))
 have HS0:=hideR h
 have HK0:Hid (Kept p v w v w):=hideR (Kept.refl _ _ _)
 have HSO0:Hid (So bs (([]:List Int)++fstB f 0) bs):=hideR (So.refl bs)
 clear h hE hS hW n1 n2 n3 n4 hlen hlen'
 go_enter Tryd.func47,Tryd.ntmps47
 go_wp2_with fail
 go_loopw [2] (fun i wr=>∃(j:Nat) (v3:Value) (b3:List Int),j<=n/\i=.int .i64 j/\Hid (WS w0 p c v3 b3 wr)/\Hid (Kept p v w v3 wr)/\Hid (So bs (([]:List Int)++fstB f j) b3)) (fun i _=>n-(Lib.intOf i).toNat)
 case atStart=>exact ⟨0,_,_,by omega,rfl,HS0,HK0,HSO0⟩
 case round =>
  clear HS0 HK0 HSO0
  obtain ⟨j,v3,b3,hj,rfl,HWS,HKW,HSO⟩:=hrel
  obtain ⟨bS,_⟩:=HKW.out.bx HH.out.1 HH.out.2.2.1 HH.out.2.2.2.2.1
  obtain ⟨bW,_⟩:=HKW.out.bx HH.out.2.1 HH.out.2.2.2.1 HH.out.2.2.2.2.2
  have k1:=bS.cell 1 _ rfl
  have k2:=bS.cell 2 _ rfl
  have kw:=bW.cell 0 _ rfl
  clear bS bW
  have hpart:(([]:List Int)++fstB f j).length<=(([]:List Int)++fstB f n).length:=by rw [List.length_append,List.length_append];have:=fstB_le f j n hj;omega
  have hb3:b3.length<=38900000000000:=by have h1:=HSO.out.2;have h2:=HLEN.out;omega
  by_cases hgo:j<n
  ·have HC:=hideR (wFull w0 p c v3 b3 wr HWS.out (by omega))
   go_wp2_with fail
   refine HC.out.mono ?_
   rintro e w3 ⟨rfl,rfl⟩
   clear HC
   by_cases hfull:262144<b3.length
   ·rw [decide_eq_true hfull]
    have HF:Hid (So bs (([]:List Int)++fstB f n) b3):=hideR ⟨.inr ⟨hfull,by have h1:=HSO.out.2;omega,HSO.out.1.le⟩,by have h1:=HSO.out.2;omega⟩
    clear hfull
    go_wp2
    go_end0
    exact ⟨_,_,rfl,HWS.out,HKW.out,HF.out.1,HF.out.2⟩
   ·rw [decide_eq_false hfull]
    clear hfull
    have HC:=hideR (HE.out j v3 b3 w3 hgo HWS.out (by
     have h1:=HSO.out.2
     have h2:=fstB_le f (j+1) n (by omega)
     have h3:=HLEN.out
     rw [show fstB f (j+1)=fstB f j++f j from rfl] at h2
     simp only [List.length_append] at h1 h2 h3
     omega))
    go_wp2_with fail
    refine HC.out.mono ?_
    rintro e w4 ⟨v4,b4,rfl,hh,kk,ha,hl⟩
    have HS4:=hideR hh
    have HK4:=hideR (HKW.out.trans kk)
    have HSO4:Hid (So bs (([]:List Int)++fstB f (j+1)) b4):=hideR (by rw [show fstB f (j+1)=fstB f j++f j from rfl,<- List.append_assoc];exact HSO.out.adds ha hl)
    clear hh kk ha hl HC HWS HKW HSO k1 k2 kw
    go_wp2
    go_roundw
    case rel=>exact ⟨j+1,v4,b4,by omega,by go_num,HS4,HK4,HSO4⟩
    case measure=>simp [Lib.intOf];omega
  ·obtain rfl:n=j:=by omega
   go_wp2
   go_end0
   exact ⟨_,_,rfl,HWS.out,HKW.out,HSO.out.1,HSO.out.2⟩
set_option maxRecDepth 100000 in
set_option maxHeartbeats 4000000 in
theorem wSec9 (w0:World) (p:Nat) (c:Nat->Value) (v:Value) (bs:List Int) (n:Nat) (f:Nat->List Int) (qS qW:Nat) (w:World) (h:WS w0 p c v bs w) (hE:EntC w0 p c 42 n f)
  (hS:Bx w qS 66 #[.int .i64 9,.int .i64 n,.func (.func 42) #[.pointer (some ⟨p,0,none⟩)] #[]]) (hW:Bx w qW 58 #[.pointer (some ⟨p,0,none⟩)]) (n1:qS≠p) (n2:qW≠p) (n3:some qS≠v.ownBlock) (n4:some qW≠v.ownBlock)
  (hnn:n<=1000000) (hlen:bs.length+(insideB 9 n f).length<=38900000000000) :
  Calls Tryd.prog 47 #[.pointer (some ⟨qS,0,none⟩),.pointer (some ⟨qW,0,none⟩)] w (DoesA w0 p c v w bs (insideB 9 n f)):=by
 have hlen':bs.length+(Leb.uB (n:Int)++fstB f n).length<=38900000000000:=hlen
 have k0:=hS.cell 0 _ rfl
 have k1:=hS.cell 1 _ rfl
 have k2:=hS.cell 2 _ rfl
 have kw:=hW.cell 0 _ rfl
 have HE:=hideR hE
 have HH:=hideR (⟨hS,hW,n1,n2,n3,n4⟩:Bx w qS 66 #[.int .i64 9,.int .i64 n,.func (.func 42) #[.pointer (some ⟨p,0,none⟩)] #[]]/\Bx w qW 58 #[.pointer (some ⟨p,0,none⟩)]/\qS≠p/\qW≠p/\some qS≠v.ownBlock/\some qW≠v.ownBlock)
 have HLEN:=hideR hlen'
 show Calls Tryd.prog 47 #[.pointer (some ⟨qS,0,none⟩),.pointer (some ⟨qW,0,none⟩)] w (DoesA w0 p c v w bs (Leb.uB (n:Int)++fstB f n))
 have hten:=Leb.uB_ten (n:=(n:Int)) (by omega) (by omega)
 have HC1:=hideR (wU w0 p c v bs (n:Int) w h (by omega) (by omega) (by rw [List.length_append] at hlen';omega))
 clear h hE hS hW n1 n2 n3 n4 hlen hlen'
 go_enter Tryd.func47,Tryd.ntmps47
 go_wp2_with fail
 refine HC1.out.mono ?_
 rintro e w1 ⟨v1,rfl,hh,kk⟩
 have HS0:=hideR hh
 have HK0:=hideR kk
 have HSO0:Hid (So bs (Leb.uB (n:Int)++fstB f 0) (bs++Leb.uB (n:Int))):=hideR (by have h3:=(So.refl bs).app (Leb.uB (n:Int));rw [List.nil_append] at h3;rw [show fstB f 0 = [] from rfl,List.append_nil];exact h3)
 clear hh kk HC1 k0 k1 k2 kw
 go_wp2_with fail
 go_loopw [2] (fun i wr=>∃(j:Nat) (v3:Value) (b3:List Int),j<=n/\i=.int .i64 j/\Hid (WS w0 p c v3 b3 wr)/\Hid (Kept p v w v3 wr)/\Hid (So bs (Leb.uB (n:Int)++fstB f j) b3)) (fun i _=>n-(Lib.intOf i).toNat)
 case atStart=>exact ⟨0,_,_,by omega,rfl,HS0,HK0,HSO0⟩
 case round =>
  clear HS0 HK0 HSO0
  obtain ⟨j,v3,b3,hj,rfl,HWS,HKW,HSO⟩:=hrel
  obtain ⟨bS,_⟩:=HKW.out.bx HH.out.1 HH.out.2.2.1 HH.out.2.2.2.2.1
  obtain ⟨bW,_⟩:=HKW.out.bx HH.out.2.1 HH.out.2.2.2.1 HH.out.2.2.2.2.2
  have k1:=bS.cell 1 _ rfl
  have k2:=bS.cell 2 _ rfl
  have kw:=bW.cell 0 _ rfl
  clear bS bW
  have hpart:(Leb.uB (n:Int)++fstB f j).length<=(Leb.uB (n:Int)++fstB f n).length:=by rw [List.length_append,List.length_append];have:=fstB_le f j n hj;omega
  have hb3:b3.length<=38900000000000:=by have h1:=HSO.out.2;have h2:=HLEN.out;omega
  by_cases hgo:j<n
  ·have HC:=hideR (wFull w0 p c v3 b3 wr HWS.out (by omega))
   go_wp2_with fail
   refine HC.out.mono ?_
   rintro e w3 ⟨rfl,rfl⟩
   clear HC
   by_cases hfull:262144<b3.length
   ·rw [decide_eq_true hfull]
    have HF:Hid (So bs (Leb.uB (n:Int)++fstB f n) b3):=hideR ⟨.inr ⟨hfull,by have h1:=HSO.out.2;omega,HSO.out.1.le⟩,by have h1:=HSO.out.2;omega⟩
    clear hfull
    go_wp2
    go_end0
    exact ⟨_,_,rfl,HWS.out,HKW.out,HF.out.1,HF.out.2⟩
   ·rw [decide_eq_false hfull]
    clear hfull
    have HC:=hideR (HE.out j v3 b3 w3 hgo HWS.out (by
     have h1:=HSO.out.2
     have h2:=fstB_le f (j+1) n (by omega)
     have h3:=HLEN.out
     rw [show fstB f (j+1)=fstB f j++f j from rfl] at h2
     simp only [List.length_append] at h1 h2 h3
     omega))
    go_wp2_with fail
    refine HC.out.mono ?_
    rintro e w4 ⟨v4,b4,rfl,hh,kk,ha,hl⟩
    have HS4:=hideR hh
    have HK4:=hideR (HKW.out.trans kk)
    have HSO4:Hid (So bs (Leb.uB (n:Int)++fstB f (j+1)) b4):=hideR (by rw [show fstB f (j+1)=fstB f j++f j from rfl,<- List.append_assoc];exact HSO.out.adds ha hl)
    clear hh kk ha hl HC HWS HKW HSO k1 k2 kw
    go_wp2
    go_roundw
    case rel=>exact ⟨j+1,v4,b4,by omega,by go_num,HS4,HK4,HSO4⟩
    case measure=>simp [Lib.intOf];omega
  ·obtain rfl:n=j:=by omega
   go_wp2
   go_end0
   exact ⟨_,_,rfl,HWS.out,HKW.out,HSO.out.1,HSO.out.2⟩
set_option maxRecDepth 100000 in
set_option maxHeartbeats 4000000 in
theorem wSec10 (w0:World) (p:Nat) (c:Nat->Value) (v:Value) (bs:List Int) (n:Nat) (f:Nat->List Int) (qS qW:Nat) (w:World) (h:WS w0 p c v bs w) (hE:EntC w0 p c 43 n f)
  (hS:Bx w qS 66 #[.int .i64 10,.int .i64 n,.func (.func 43) #[.pointer (some ⟨p,0,none⟩)] #[]]) (hW:Bx w qW 58 #[.pointer (some ⟨p,0,none⟩)]) (n1:qS≠p) (n2:qW≠p) (n3:some qS≠v.ownBlock) (n4:some qW≠v.ownBlock)
  (hnn:n<=1000000) (hlen:bs.length+(insideB 10 n f).length<=38900000000000) :
  Calls Tryd.prog 47 #[.pointer (some ⟨qS,0,none⟩),.pointer (some ⟨qW,0,none⟩)] w (DoesA w0 p c v w bs (insideB 10 n f)):=by
 have hlen':bs.length+(Leb.uB (n:Int)++fstB f n).length<=38900000000000:=hlen
 have k0:=hS.cell 0 _ rfl
 have k1:=hS.cell 1 _ rfl
 have k2:=hS.cell 2 _ rfl
 have kw:=hW.cell 0 _ rfl
 have HE:=hideR hE
 have HH:=hideR (⟨hS,hW,n1,n2,n3,n4⟩:Bx w qS 66 #[.int .i64 10,.int .i64 n,.func (.func 43) #[.pointer (some ⟨p,0,none⟩)] #[]]/\Bx w qW 58 #[.pointer (some ⟨p,0,none⟩)]/\qS≠p/\qW≠p/\some qS≠v.ownBlock/\some qW≠v.ownBlock)
 have HLEN:=hideR hlen'
 show Calls Tryd.prog 47 #[.pointer (some ⟨qS,0,none⟩),.pointer (some ⟨qW,0,none⟩)] w (DoesA w0 p c v w bs (Leb.uB (n:Int)++fstB f n))
 have hten:=Leb.uB_ten (n:=(n:Int)) (by omega) (by omega)
 have HC1:=hideR (wU w0 p c v bs (n:Int) w h (by omega) (by omega) (by rw [List.length_append] at hlen';omega))
 clear h hE hS hW n1 n2 n3 n4 hlen hlen'
 go_enter Tryd.func47,Tryd.ntmps47
 go_wp2_with fail
 refine HC1.out.mono ?_
 rintro e w1 ⟨v1,rfl,hh,kk⟩
 have HS0:=hideR hh
 have HK0:=hideR kk
 have HSO0:Hid (So bs (Leb.uB (n:Int)++fstB f 0) (bs++Leb.uB (n:Int))):=hideR (by have h3:=(So.refl bs).app (Leb.uB (n:Int));rw [List.nil_append] at h3;rw [show fstB f 0 = [] from rfl,List.append_nil];exact h3)
 clear hh kk HC1 k0 k1 k2 kw
 go_wp2_with fail
 go_loopw [2] (fun i wr=>∃(j:Nat) (v3:Value) (b3:List Int),j<=n/\i=.int .i64 j/\Hid (WS w0 p c v3 b3 wr)/\Hid (Kept p v w v3 wr)/\Hid (So bs (Leb.uB (n:Int)++fstB f j) b3)) (fun i _=>n-(Lib.intOf i).toNat)
 case atStart=>exact ⟨0,_,_,by omega,rfl,HS0,HK0,HSO0⟩
 case round =>
  clear HS0 HK0 HSO0
  obtain ⟨j,v3,b3,hj,rfl,HWS,HKW,HSO⟩:=hrel
  obtain ⟨bS,_⟩:=HKW.out.bx HH.out.1 HH.out.2.2.1 HH.out.2.2.2.2.1
  obtain ⟨bW,_⟩:=HKW.out.bx HH.out.2.1 HH.out.2.2.2.1 HH.out.2.2.2.2.2
  have k1:=bS.cell 1 _ rfl
  have k2:=bS.cell 2 _ rfl
  have kw:=bW.cell 0 _ rfl
  clear bS bW
  have hpart:(Leb.uB (n:Int)++fstB f j).length<=(Leb.uB (n:Int)++fstB f n).length:=by rw [List.length_append,List.length_append];have:=fstB_le f j n hj;omega
  have hb3:b3.length<=38900000000000:=by have h1:=HSO.out.2;have h2:=HLEN.out;omega
  by_cases hgo:j<n
  ·have HC:=hideR (wFull w0 p c v3 b3 wr HWS.out (by omega))
   go_wp2_with fail
   refine HC.out.mono ?_
   rintro e w3 ⟨rfl,rfl⟩
   clear HC
   by_cases hfull:262144<b3.length
   ·rw [decide_eq_true hfull]
    have HF:Hid (So bs (Leb.uB (n:Int)++fstB f n) b3):=hideR ⟨.inr ⟨hfull,by have h1:=HSO.out.2;omega,HSO.out.1.le⟩,by have h1:=HSO.out.2;omega⟩
    clear hfull
    go_wp2
    go_end0
    exact ⟨_,_,rfl,HWS.out,HKW.out,HF.out.1,HF.out.2⟩
   ·rw [decide_eq_false hfull]
    clear hfull
    have HC:=hideR (HE.out j v3 b3 w3 hgo HWS.out (by
     have h1:=HSO.out.2
     have h2:=fstB_le f (j+1) n (by omega)
     have h3:=HLEN.out
     rw [show fstB f (j+1)=fstB f j++f j from rfl] at h2
     simp only [List.length_append] at h1 h2 h3
     omega))
    go_wp2_with fail
    refine HC.out.mono ?_
    rintro e w4 ⟨v4,b4,rfl,hh,kk,ha,hl⟩
    have HS4:=hideR hh
    have HK4:=hideR (HKW.out.trans kk)
    have HSO4:Hid (So bs (Leb.uB (n:Int)++fstB f (j+1)) b4):=hideR (by rw [show fstB f (j+1)=fstB f j++f j from rfl,<- List.append_assoc];exact HSO.out.adds ha hl)
    clear hh kk ha hl HC HWS HKW HSO k1 k2 kw
    go_wp2
    go_roundw
    case rel=>exact ⟨j+1,v4,b4,by omega,by go_num,HS4,HK4,HSO4⟩
    case measure=>simp [Lib.intOf];omega
  ·obtain rfl:n=j:=by omega
   go_wp2
   go_end0
   exact ⟨_,_,rfl,HWS.out,HKW.out,HSO.out.1,HSO.out.2⟩
set_option maxRecDepth 100000 in
set_option maxHeartbeats 4000000 in
theorem wSec11 (w0:World) (p:Nat) (c:Nat->Value) (v:Value) (bs:List Int) (n:Nat) (f:Nat->List Int) (qS qW:Nat) (w:World) (h:WS w0 p c v bs w) (hE:EntC w0 p c 44 n f)
  (hS:Bx w qS 66 #[.int .i64 11,.int .i64 n,.func (.func 44) #[.pointer (some ⟨p,0,none⟩)] #[]]) (hW:Bx w qW 58 #[.pointer (some ⟨p,0,none⟩)]) (n1:qS≠p) (n2:qW≠p) (n3:some qS≠v.ownBlock) (n4:some qW≠v.ownBlock)
  (hnn:n<=1000000) (hlen:bs.length+(insideB 11 n f).length<=38900000000000) :
  Calls Tryd.prog 47 #[.pointer (some ⟨qS,0,none⟩),.pointer (some ⟨qW,0,none⟩)] w (DoesA w0 p c v w bs (insideB 11 n f)):=by
 have hlen':bs.length+(Leb.uB (n:Int)++fstB f n).length<=38900000000000:=hlen
 have k0:=hS.cell 0 _ rfl
 have k1:=hS.cell 1 _ rfl
 have k2:=hS.cell 2 _ rfl
 have kw:=hW.cell 0 _ rfl
 have HE:=hideR hE
 have HH:=hideR (⟨hS,hW,n1,n2,n3,n4⟩:Bx w qS 66 #[.int .i64 11,.int .i64 n,.func (.func 44) #[.pointer (some ⟨p,0,none⟩)] #[]]/\Bx w qW 58 #[.pointer (some ⟨p,0,none⟩)]/\qS≠p/\qW≠p/\some qS≠v.ownBlock/\some qW≠v.ownBlock)
 have HLEN:=hideR hlen'
 show Calls Tryd.prog 47 #[.pointer (some ⟨qS,0,none⟩),.pointer (some ⟨qW,0,none⟩)] w (DoesA w0 p c v w bs (Leb.uB (n:Int)++fstB f n))
 have hten:=Leb.uB_ten (n:=(n:Int)) (by omega) (by omega)
 have HC1:=hideR (wU w0 p c v bs (n:Int) w h (by omega) (by omega) (by rw [List.length_append] at hlen';omega))
 clear h hE hS hW n1 n2 n3 n4 hlen hlen'
 go_enter Tryd.func47,Tryd.ntmps47
 go_wp2_with fail
 refine HC1.out.mono ?_
 rintro e w1 ⟨v1,rfl,hh,kk⟩
 have HS0:=hideR hh
 have HK0:=hideR kk
 have HSO0:Hid (So bs (Leb.uB (n:Int)++fstB f 0) (bs++Leb.uB (n:Int))):=hideR (by have h3:=(So.refl bs).app (Leb.uB (n:Int));rw [List.nil_append] at h3;rw [show fstB f 0 = [] from rfl,List.append_nil];exact h3)
 clear hh kk HC1 k0 k1 k2 kw
 go_wp2_with fail
 go_loopw [2] (fun i wr=>∃(j:Nat) (v3:Value) (b3:List Int),j<=n/\i=.int .i64 j/\Hid (WS w0 p c v3 b3 wr)/\Hid (Kept p v w v3 wr)/\Hid (So bs (Leb.uB (n:Int)++fstB f j) b3)) (fun i _=>n-(Lib.intOf i).toNat)
 case atStart=>exact ⟨0,_,_,by omega,rfl,HS0,HK0,HSO0⟩
 case round =>
  clear HS0 HK0 HSO0
  obtain ⟨j,v3,b3,hj,rfl,HWS,HKW,HSO⟩:=hrel
  obtain ⟨bS,_⟩:=HKW.out.bx HH.out.1 HH.out.2.2.1 HH.out.2.2.2.2.1
  obtain ⟨bW,_⟩:=HKW.out.bx HH.out.2.1 HH.out.2.2.2.1 HH.out.2.2.2.2.2
  have k1:=bS.cell 1 _ rfl
  have k2:=bS.cell 2 _ rfl
  have kw:=bW.cell 0 _ rfl
  clear bS bW
  have hpart:(Leb.uB (n:Int)++fstB f j).length<=(Leb.uB (n:Int)++fstB f n).length:=by rw [List.length_append,List.length_append];have:=fstB_le f j n hj;omega
  have hb3:b3.length<=38900000000000:=by have h1:=HSO.out.2;have h2:=HLEN.out;omega
  by_cases hgo:j<n
  ·have HC:=hideR (wFull w0 p c v3 b3 wr HWS.out (by omega))
   go_wp2_with fail
   refine HC.out.mono ?_
   rintro e w3 ⟨rfl,rfl⟩
   clear HC
   by_cases hfull:262144<b3.length
   ·rw [decide_eq_true hfull]
    have HF:Hid (So bs (Leb.uB (n:Int)++fstB f n) b3):=hideR ⟨.inr ⟨hfull,by have h1:=HSO.out.2;omega,HSO.out.1.le⟩,by have h1:=HSO.out.2;omega⟩
    clear hfull
    go_wp2
    go_end0
    exact ⟨_,_,rfl,HWS.out,HKW.out,HF.out.1,HF.out.2⟩
   ·rw [decide_eq_false hfull]
    clear hfull
    have HC:=hideR (HE.out j v3 b3 w3 hgo HWS.out (by
     have h1:=HSO.out.2
     have h2:=fstB_le f (j+1) n (by omega)
     have h3:=HLEN.out
     rw [show fstB f (j+1)=fstB f j++f j from rfl] at h2
     simp only [List.length_append] at h1 h2 h3
     omega))
    go_wp2_with fail
    refine HC.out.mono ?_
    rintro e w4 ⟨v4,b4,rfl,hh,kk,ha,hl⟩
    have HS4:=hideR hh
    have HK4:=hideR (HKW.out.trans kk)
    have HSO4:Hid (So bs (Leb.uB (n:Int)++fstB f (j+1)) b4):=hideR (by rw [show fstB f (j+1)=fstB f j++f j from rfl,<- List.append_assoc];exact HSO.out.adds ha hl)
    clear hh kk ha hl HC HWS HKW HSO k1 k2 kw
    go_wp2
    go_roundw
    case rel=>exact ⟨j+1,v4,b4,by omega,by go_num,HS4,HK4,HSO4⟩
    case measure=>simp [Lib.intOf];omega
  ·obtain rfl:n=j:=by omega
   go_wp2
   go_end0
   exact ⟨_,_,rfl,HWS.out,HKW.out,HSO.out.1,HSO.out.2⟩
end Go.Proofs.YtlcpagiljfpbpaaDoor

