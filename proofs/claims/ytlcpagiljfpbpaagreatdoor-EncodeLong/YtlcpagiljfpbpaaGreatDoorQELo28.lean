/- Texts that the claim needs. -/
import Derived.Test.YtlcpagiljfpbpaaGreatDoorQELo24
import Derived.Test.YtlcpagiljfpbpaaGreatDoorQELo25
import Derived.Test.YtlcpagiljfpbpaaGreatDoorQELo27
import Derived.Test.YtlcpagiljfpbpaaGreatDoorQELo20
import Derived.Lib.SlBytesConst
import Derived.Laws.EntriesVeiled
import Derived.Test.YtlcpagiljfpbpaaGreatDoorQELo23
import Derived.Test.YtlcpagiljfpbpaaGreatDoorQELo9
namespace Go.Proofs.YtlcpagiljfpbpaaGreatDoor
open Go.RowKit Rep
set_option linter.unusedVariables false
namespace Rep
structure ModOk {d:Nat} (v3 v4:Value) (m:Mod d):Prop where
 deep:d<=4611686018427387904
 datas:∀x ∈ m.datas,x.bytes.size<=9223372036854775807
 texts:Texts m
 tables:∀n c,v3=.slice none n c->c=0
 mems:∀n c,v4=.slice none n c->c=0
theorem fewM_lens {d:Nat} {m:Mod d} (h:fewM m=true):m.tables.length<=4096/\m.mems.length<=4096:=by
 unfold fewM at h
 rw [Bool.and_eq_true] at h
 have h1:=List.all_eq_true.1 h.1
 have a:=h1 (len m.tables) (by simp)
 have b:=h1 (len m.mems) (by simp)
 have a:=of_decide_eq_true (p:=((m.tables.length:Int)<=4096)) a
 have b:=of_decide_eq_true (p:=((m.mems.length:Int)<=4096)) b
 omega
end Rep
theorem pCheckC {I:World->Prop} (C:WastC I) (d:Nat) (v0 v1 v2 v3 v4 v5 v6 v7 v8 v9:Value) (m:Mod d) (w:World) (hI:I w) (hM:ModAt w d v0 v1 v2 v3 v4 v5 v6 v7 v8 v9 m) (hO:ModOk v3 v4 m) :
  Calls Tryz.prog 17 #[.agg #[v0,v1,v2,v3,v4,v5,v6,v7,v8,v9]] w fun e w'=>e=.returned (.int .i64 (chk m))/\Below w.heap.size w w':=by
 refine pCheck C.toFormC d hO.deep v0 v1 v2 v3 v4 v5 v6 v7 v8 v9 m w hI hM hO.datas fun hf w' hb=>?_
 have hl:=fewM_lens hf
 have hM':=hM.on hb
 obtain ⟨o3,c3,e3⟩:=Row.len hM'.tables
 obtain ⟨o4,c4,e4⟩:=Row.len hM'.mems
 refine pneedShapes C d v0 v1 v2 v3 v4 v5 v6 v7 v8 v9 m w' (C.keep hb hI) hM' hO.texts fun u b hu k0 k1=>?_
 have hM2:=hM'.on hu
 have r3:=hM2.tables
 have r4:=hM2.mems
 rw [e3] at r3 k0
 rw [e4] at r4 k1
 refine pConcat m.tables m.mems o3 o4 c3 c4 u b r3 r4 (fun h=>?_) (fun h=>?_) k0 k1 hl.1 hl.2
 ·subst h;exact hO.tables _ _ e3
 ·subst h;exact hO.mems _ _ e4
theorem wastC {I:World->Prop} (C:ReckC I) (hU:∀w,I w->UtfI w):WastC I :=
 { toFormC:=formC C,name:=fun s w h hs=>pName s w hs (hU w h) }
theorem utfI_on {w w':World} (hb:Below w.heap.size w w') (h:UtfI w):UtfI w':=Utf8Tabs_below h hb
end Go.Proofs.YtlcpagiljfpbpaaGreatDoor

namespace Go.Proofs.YtlcpagiljfpbpaaGreatDoor
open Go.RowKit Rep Enc Go.Lib
set_option linter.unusedVariables false
namespace Enc
def toldS (bs:List Int):ByteArray:=if 262144<bs.length then ⟨#[]⟩ else strOfNums bs
def toldE (bs:List Int):Int:=if 262144<bs.length then 2 else 0
theorem told_eq (bs:List Int):told bs=.tuple #[.string (toldS bs),.int .i64 (toldE bs)]:=by
 unfold told toldS toldE;split<;>rfl
theorem told_adds {a x b:List Int} (h:Adds a x b):told b=told (a++x):=by
 rcases h with rfl|⟨h1,h2,_⟩
 ·rfl
 ·unfold told;rw [if_pos h1,if_pos (by rw [List.length_append];exact h2)]
def WX (w0:World) (p:Nat) (c:Nat->Value) (v:Value) (b:List Int) (w:World):Prop:=WS w0 p c v b w\/(b=headB/\WN w0 p c v w)
section
variable {w0 w w':World} {p:Nat} {c:Nat->Value} {v:Value} {b:List Int}
theorem WX.on (h:WX w0 p c v b w) (hb:Below w.heap.size w w'):WX w0 p c v b w':=h.imp (fun h=>h.on hb) fun h=>⟨h.1,h.2.on hb⟩
theorem WX.lt (h:WX w0 p c v b w):p<w.heap.size:=by
 rcases h with h|⟨_,h⟩
 ·exact h.lt
 ·exact h.lt
theorem WX.own (h:WX w0 p c v b w):∀k,v.ownBlock=some k->k<w.heap.size:=by
 rcases h with h|⟨_,h⟩
 ·exact fun k hk=>(h.own.lt k hk).2
 ·obtain ⟨g,rfl,_,_,hg⟩:=h.row
  intro k hk
  have:g=k:=by simpa [Value.ownBlock] using hk
  subst this
  exact (Array.getElem?_eq_some_iff.1 hg).1
theorem WX.below (h:WX w0 p c v b w):Below w0.heap.size w0 w:=by
 rcases h with h|⟨_,h⟩
 ·exact h.below
 ·exact h.below
theorem WX.put (h:WX w0 p c v b w) (hn:b.length<=100000000000000):PutC w0 p c v b w:=by
 rcases h with h|⟨rfl,h⟩
 ·exact PutC.of h hn
 ·exact fun b w' hb=>wPutN w0 p c v b w' (h.on hb)
theorem WX.told (h:WX w0 p c v b w) (hn:b.length<=100000000000000) (h0:0<b.length):Calls Tryz.prog 20 #[.pointer (some ⟨p,0,none⟩)] w fun e w'=>e=.returned (told b)/\w'=w:=by
 rcases h with h|⟨rfl,h⟩
 ·exact wTold w0 p c v b w h hn h0
 ·exact wToldN w0 p c v w h
end
theorem wSec (w0:World) (p:Nat) (c:Nat->Value) (id:Int) (n:Nat) (F:FuncId) (f:Nat->List Int) (v:Value) (b:List Int) (w:World) (h:WX w0 p c v b w) (hS:SecIn w0 p c id n F f) (hid:0<=id/\id<=255) (hlen:b.length+(secB id n (insideB id n f)).length<=38800000000000) :
  Calls Tryz.prog 19 #[.pointer (some ⟨p,0,none⟩),.agg #[.int .i64 id,.int .i64 (n:Nat),.func (.func F) #[.pointer (some ⟨p,0,none⟩)] #[]]] w fun e w'=>∃v' b',e=.returned (.tuple #[])/\WX w0 p c v' b' w'/\Kept p v w v' w'/\So b (secB id n (insideB id n f)) b':=by
 rcases Nat.eq_zero_or_pos n with rfl|hn
 ·refine (wSection0 p id F w).mono ?_
  rintro e w' ⟨rfl,hb⟩
  exact ⟨v,b,rfl,h.on hb,Kept.below hb,by unfold secB;rw [if_pos rfl];exact So.refl b⟩
 ·have hs:secB id n (insideB id n f) = [id]++sizB (insideB id n f):=by unfold secB;rw [if_neg (by omega)]
  rw [hs] at hlen ⊢
  refine (wSection w0 p c id n F f v b w (h.put (by omega)) h.lt h.own hS hn hid (by unfold sizB at hlen;simp only [List.length_append] at hlen;omega)).mono ?_
  rintro e w' ⟨v',b',rfl,h1,h2,h3,h4⟩
  exact ⟨v',b',rfl,.inl h1,h2,h3,h4⟩
def encA {d:Nat} (m:Mod d):Value:=if chk m=0 then told (modB m) else .tuple #[.string ⟨#[]⟩,.int .i64 (chk m)]
end Enc
set_option maxRecDepth 100000 in
set_option maxHeartbeats 4000000 in
theorem pEncode0 {I:World->Prop} (C:WastC I) (d:Nat) (v0 v1 v2 v3 v4 v5 v6 v7 v8 v9:Value) (m:Mod d) (w:World) (hI:I w) (hM:ModAt w d v0 v1 v2 v3 v4 v5 v6 v7 v8 v9 m) (hO:ModOk v3 v4 m) (h0:chk m≠0) :
  Calls Tryz.prog 9 #[.agg #[v0,v1,v2,v3,v4,v5,v6,v7,v8,v9]] w fun e w'=>e=.returned (.tuple #[.string ⟨#[]⟩,.int .i64 (chk m)])/\Below w.heap.size w w':=by
 have hb:=new_on' w (.cells #[v0,v1,v2,v3,v4,v5,v6,v7,v8,v9] 32)
 have HB:=hideR hb
 obtain ⟨o0,k0,rfl⟩:=Row.len hM.types
 obtain ⟨o1,k1,rfl⟩:=Row.len hM.imports
 obtain ⟨o2,k2,rfl⟩:=Row.len hM.funcs
 obtain ⟨o3,k3,rfl⟩:=Row.len hM.tables
 obtain ⟨o4,k4,rfl⟩:=Row.len hM.mems
 obtain ⟨o5,k5,rfl⟩:=Row.len hM.globals
 obtain ⟨o6,k6,rfl⟩:=Row.len hM.exports
 obtain ⟨o7,k7,rfl⟩:=Row.len hM.start
 obtain ⟨o8,k8,rfl⟩:=Row.len hM.elems
 obtain ⟨o9,k9,rfl⟩:=Row.len hM.datas
 have HC:=hideR (pCheckC C d _ _ _ _ _ _ _ _ _ _ m _ (C.keep hb hI) (hM.on hb) hO)
 clear hM hO hI hb
 generalize m.types.length=n0 at *
 generalize m.imports.length=n1 at *
 generalize m.funcs.length=n2 at *
 generalize m.tables.length=n3 at *
 generalize m.mems.length=n4 at *
 generalize m.globals.length=n5 at *
 generalize m.exports.length=n6 at *
 generalize m.start.length=n7 at *
 generalize m.elems.length=n8 at *
 generalize m.datas.length=n9 at *
 generalize chk m=r at *
 go_enter Tryz.func9,Tryz.ntmps9
 go_wp2_with fail
 refine HC.out.mono ?_
 rintro e w1 ⟨rfl,hb1⟩
 have HB1:=hideR (HB.out.trans (hb1.mono HB.out.size))
 clear hb1 HB HC
 go_wp2
 go_ret2
 exact ⟨rfl,HB1.out⟩
set_option maxRecDepth 100000 in
set_option maxHeartbeats 4000000 in
theorem pEncode1 {I:World->Prop} (C:WastC I) (d:Nat) (v0 v1 v2 v3 v4 v5 v6 v7 v8 v9:Value) (m:Mod d) (w:World) (hI:I w) (hM:ModAt w d v0 v1 v2 v3 v4 v5 v6 v7 v8 v9 m) (hO:ModOk v3 v4 m) (h0:chk m=0) (W:Wr m) :
  Calls Tryz.prog 9 #[.agg #[v0,v1,v2,v3,v4,v5,v6,v7,v8,v9]] w fun e w'=>e=.returned (told (modB m))/\Below w.heap.size w w':=by
 have hkc:=fun (w:World) (C:Array Value) (n c:Nat)=>Lib.run_convert_bytes_const (P:=Tryz.prog) w 53 5 C n c Tryz.underlying53 Tryz.underlying5
 have hb:=new_on' w (.cells #[v0,v1,v2,v3,v4,v5,v6,v7,v8,v9] 32)
 have hC0:Calls Tryz.prog 17 #[.agg #[v0,v1,v2,v3,v4,v5,v6,v7,v8,v9]] (w.alloc (.cells #[v0,v1,v2,v3,v4,v5,v6,v7,v8,v9] 32)) fun e w'=>e=.returned (.int .i64 0)/\Below (w.alloc (.cells #[v0,v1,v2,v3,v4,v5,v6,v7,v8,v9] 32)).heap.size (w.alloc (.cells #[v0,v1,v2,v3,v4,v5,v6,v7,v8,v9] 32)) w':=by
  have:=pCheckC C d _ _ _ _ _ _ _ _ _ _ m _ (C.keep hb hI) (hM.on hb) hO
  rw [h0] at this;exact this
 have HBX:=hideR (Bx.new (w:=w) (b:=w.heap.size) (t:=32) (cs:=#[v0,v1,v2,v3,v4,v5,v6,v7,v8,v9]) rfl)
 obtain ⟨c,hc⟩:∃c:Nat->Value,c=fun i=>(#[v0,v1,v2,v3,v4,v5,v6,v7,v8,v9]).getD i undef:=⟨_,rfl⟩
 have HSEC:Hid (∀(p j:Nat),j<11->∃(id:Int) (n:Nat) (F:FuncId) (f:Nat->List Int),(secCells p (ln m))[j*3]?=some (.int .i64 id)/\(secCells p (ln m))[j*3+1]?=some (.int .i64 (n:Nat))/\(secCells p (ln m))[j*3+2]?=some (.func (.func F) #[.pointer (some ⟨p,0,none⟩)] #[])/\(0<=id/\id<=255)/\SecIn w p c id n F f/\sb m j=secB id n (insideB id n f)) :=
  hideR fun p j hj=>secs_ok C.toFormC w hI p c d m (by rw [hc];exact hM) W j hj
 have HWN:Hid (∀w1:World,Below w.heap.size w w1->WN w (w1.heap.size+1) c (.slice (some ⟨w1.heap.size,0,none⟩) 8 8) ((w1.alloc (.cells #[.int .u8 0,.int .u8 97,.int .u8 115,.int .u8 109,.int .u8 1,.int .u8 0,.int .u8 0,.int .u8 0] 5 (8,9))).alloc (.cells #[v0,v1,v2,v3,v4,v5,v6,v7,v8,v9,.slice (some ⟨w1.heap.size,0,none⟩) 8 8] 67))):=hideR fun w1 hb1 =>
  ⟨hb1.trans ((((Below.refl _ w1).alloc (Nat.le_refl _) _).alloc (by simp) _).mono hb1.size),by have:=hb1.size;omega,by rw [hc];exact heap_new1 _ _ _,w1.heap.size,rfl,hb1.size,by omega,by
   have h1:=new_on' (w1.alloc (.cells #[.int .u8 0,.int .u8 97,.int .u8 115,.int .u8 109,.int .u8 1,.int .u8 0,.int .u8 0,.int .u8 0] 5 (8,9))) (.cells #[v0,v1,v2,v3,v4,v5,v6,v7,v8,v9,.slice (some ⟨w1.heap.size,0,none⟩) 8 8] 67)
   rw [h1.block _ (by simp)]
   exact heap_new _ _⟩
 have HMB:Hid (modB m=headB++fstB (sb m) 11/\(modB m).length<=38000000000000):=hideR ⟨modB_sb m,W.short⟩
 have HB:=hideR hb
 have HC:=hideR hC0
 obtain ⟨o0,k0,rfl⟩:=Row.len hM.types
 obtain ⟨o1,k1,rfl⟩:=Row.len hM.imports
 obtain ⟨o2,k2,rfl⟩:=Row.len hM.funcs
 obtain ⟨o3,k3,rfl⟩:=Row.len hM.tables
 obtain ⟨o4,k4,rfl⟩:=Row.len hM.mems
 obtain ⟨o5,k5,rfl⟩:=Row.len hM.globals
 obtain ⟨o6,k6,rfl⟩:=Row.len hM.exports
 obtain ⟨o7,k7,rfl⟩:=Row.len hM.start
 obtain ⟨o8,k8,rfl⟩:=Row.len hM.elems
 obtain ⟨o9,k9,rfl⟩:=Row.len hM.datas
 have HCI:Hid (∀i,i<10->c i=.slice ((#[o0,o1,o2,o3,o4,o5,o6,o7,o8,o9]).getD i none) (ln m i) ((#[k0,k1,k2,k3,k4,k5,k6,k7,k8,k9]).getD i 0)):=hideR fun i hi=>by
  rw [hc]
  match i,hi with
  | 0,_=>rfl|1,_=>rfl|2,_=>rfl|3,_=>rfl|4,_=>rfl|5,_=>rfl|6,_=>rfl|7,_=>rfl|8,_=>rfl|9,_=>rfl
 clear hM hO hI hb hC0 hc W
 obtain ⟨S,E,hSE⟩:∃S E,told (modB m)=.tuple #[.string S,.int .i64 E]:=⟨_,_,told_eq _⟩
 rw [hSE]
 have HSE:=hideR hSE
 clear hSE
 generalize m.types.length=n0 at *
 generalize m.imports.length=n1 at *
 generalize m.funcs.length=n2 at *
 generalize m.tables.length=n3 at *
 generalize m.mems.length=n4 at *
 generalize m.globals.length=n5 at *
 generalize m.exports.length=n6 at *
 generalize m.start.length=n7 at *
 generalize m.elems.length=n8 at *
 generalize m.datas.length=n9 at *
 go_enter Tryz.func9,Tryz.ntmps9
 go_wp2_with fail
 refine HC.out.mono ?_
 rintro e w1 ⟨rfl,hb1⟩
 have HBX1:Hid (Bx w1 w.heap.size 32 #[.slice o0 n0 k0,.slice o1 n1 k1,.slice o2 n2 k2,.slice o3 n3 k3,.slice o4 n4 k4,.slice o5 n5 k5,.slice o6 n6 k6,.slice o7 n7 k7,.slice o8 n8 k8,.slice o9 n9 k9]):=hideR (by unfold Bx;rw [hb1.block _ HBX.out.lt];exact HBX.out)
 have HB1:=hideR (HB.out.trans (hb1.mono HB.out.size))
 clear hb1 HB HC HBX
 have q0:=HBX1.out.cell 0 _ rfl
 have q1:=HBX1.out.cell 1 _ rfl
 have q2:=HBX1.out.cell 2 _ rfl
 have q3:=HBX1.out.cell 3 _ rfl
 have q4:=HBX1.out.cell 4 _ rfl
 have q5:=HBX1.out.cell 5 _ rfl
 have q6:=HBX1.out.cell 6 _ rfl
 have q7:=HBX1.out.cell 7 _ rfl
 have q8:=HBX1.out.cell 8 _ rfl
 have q9:=HBX1.out.cell 9 _ rfl
 go_upto_region 5 with fail
 obtain ⟨w2,hw2⟩:∃w2,w2=((w1.alloc (.cells #[.int .u8 0,.int .u8 97,.int .u8 115,.int .u8 109,.int .u8 1,.int .u8 0,.int .u8 0,.int .u8 0] 5 (8,9))).alloc (.cells #[.slice o0 n0 k0,.slice o1 n1 k1,.slice o2 n2 k2,.slice o3 n3 k3,.slice o4 n4 k4,.slice o5 n5 k5,.slice o6 n6 k6,.slice o7 n7 k7,.slice o8 n8 k8,.slice o9 n9 k9,.slice (some ⟨w1.heap.size,0,none⟩) 8 8] 67)):=⟨_,rfl⟩
 have HN:=hideR (HWN.out w1 HB1.out)
 rw [<- hw2] at HN ⊢
 clear hw2 q0 q1 q2 q3 q4 q5 q6 q7 q8 q9 HBX1 HB1 HWN hkc
 have HS:=hideR (HSEC.out (w1.heap.size+1))
 clear HSEC
 generalize hp:w1.heap.size+1=p at HN HS ⊢
 generalize hg:w1.heap.size=g0 at *
 clear hp hg
 have HC:=hideR (wSections p _ _ _ w2 (fun i hi=>by rw [HN.out.fld i hi];exact congrArg some (HCI.out i hi)))
 go_wp2_with fail
 refine HC.out.mono ?_
 rintro e w3 ⟨rfl,hsc,hb3⟩
 clear HC HCI
 have HBS:Hid (Bx w3 (w2.heap.size+1) 72 (secCells p (ln m))):=hideR hsc
 have HNE:Hid (w2.heap.size+1≠p/\w2.heap.size+1≠g0):=hideR ⟨by have:=HN.out.lt;omega,by
  obtain ⟨g,h1,_,_,h4⟩:=HN.out.row
  injection h1 with h1 _ _
  injection h1 with h1
  injection h1 with h1 _ _
  have:=(Array.getElem?_eq_some_iff.1 h4).1
  omega⟩
 have HX3:Hid (WX w p c (.slice (some ⟨g0,0,none⟩) 8 8) headB w3):=hideR (.inr ⟨rfl,HN.out.on hb3⟩)
 clear hsc hb3 HN
 generalize w2.heap.size+1=gs at *
 go_wp2_with fail
 go_loopw [21] (fun i wr=>∃(j:Nat) (v:Value) (b:List Int),j<=11/\i=.int .i64 j/\Hid (WX w p c v b wr)/\Hid (Kept p (.slice (some ⟨g0,0,none⟩) 8 8) w3 v wr)/\Hid (So headB (fstB (sb m) j) b)) (fun i _=>11-(Lib.intOf i).toNat)
 case atStart=>exact ⟨0,_,_,by omega,rfl,HX3,hideR (Kept.refl _ _ _),hideR (So.refl _)⟩
 case round =>
  clear HX3
  obtain ⟨j,v,b,hj,rfl,HX,HK,HSO⟩:=hrel
  by_cases hgo:j<11
  ·obtain ⟨id,n,F,f,e0,e1,e2,hid,hSI,hsb⟩:=HS.out j hgo
   obtain ⟨bS,_⟩:=HK.out.bx HBS.out HNE.out.1 (fun e=>HNE.out.2 (by simpa [Value.ownBlock] using e))
   have z0:=bS.cell _ _ e0
   have z1:=bS.cell _ _ e1
   have z2:=bS.cell _ _ e2
   clear bS e0 e1 e2
   have hfs:=fstB_le (sb m) (j+1) 11 (by omega)
   have hfe:fstB (sb m) (j+1)=fstB (sb m) j++secB id n (insideB id n f):=by show fstB (sb m) j++sb m j=_;rw [hsb]
   rw [hfe,List.length_append] at hfs
   have HFE:=hideR hfe
   have hml:=HMB.out
   rw [hml.1,List.length_append] at hml
   have hbl:b.length+(secB id n (insideB id n f)).length<=38800000000000:=by have:=HSO.out.2;omega
   obtain ⟨u1,hu1⟩:∃u1,u1=wr.alloc (.cells #[.int .i64 id,.int .i64 (n:Nat),.func (.func F) #[.pointer (some ⟨p,0,none⟩)] #[]] 72):=⟨_,rfl⟩
   have hbu:Below wr.heap.size wr u1:=by rw [hu1];exact new_on' _ _
   have hbx:Bx u1 wr.heap.size 72 #[.int .i64 id,.int .i64 (n:Nat),.func (.func F) #[.pointer (some ⟨p,0,none⟩)] #[]]:=by rw [hu1];exact Bx.new rfl
   have y0:=hbx.cell 0 _ rfl
   have y1:=hbx.cell 1 _ rfl
   have y2:=hbx.cell 2 _ rfl
   have HCS:=hideR (wSec w p c id n F f v b u1 (HX.out.on hbu) hSI hid hbl)
   have HK1:=hideR (HK.out.trans (Kept.below (p:=p) (v:=v) hbu))
   have HU:=hideR hu1
   clear hsb hfs hfe hml hbl hu1 hbu hbx hSI hid HX HK
   go_upto_region 8 with fail
   rw [<- HU.out]
   clear HU z0 z1 z2
   generalize wr.heap.size=p3 at *
   go_wp2_with fail
   refine HCS.out.mono ?_
   rintro e w4 ⟨v4,b4,rfl,h4,k4,s4⟩
   have HX4:=hideR h4
   have HK4:=hideR (HK1.out.trans k4)
   have HSO4:Hid (So headB (fstB (sb m) (j+1)) b4):=hideR (by rw [HFE.out];exact HSO.out.adds s4.1 s4.2)
   clear h4 k4 s4 HCS HK1 y0 y1 y2
   go_wp2
   go_roundw
   case rel=>exact ⟨j+1,v4,b4,by omega,by go_num,HX4,HK4,HSO4⟩
   case measure=>simp [Lib.intOf];omega
  ·obtain rfl:j=11:=by omega
   have hlb:headB.length<=b.length:=HSO.out.1.le
   have HC:=hideR (HX.out.told (by
    have h1:=HSO.out.2
    have h2:=HMB.out
    rw [h2.1,List.length_append] at h2
    omega) (by have:headB.length=8:=rfl;omega))
   have ht:told b=.tuple #[.string S,.int .i64 E]:=by rw [told_adds HSO.out.1,<- HMB.out.1];exact HSE.out
   rw [ht] at HC
   have HBW:=hideR HX.out.below
   clear hlb ht
   go_wp2_with fail
   refine HC.out.mono ?_
   rintro e w5 ⟨rfl,rfl⟩
   go_wp2
   go_ret2
   exact ⟨rfl,HBW.out⟩
theorem pEncode {I:World->Prop} (C:WastC I) (d:Nat) (v0 v1 v2 v3 v4 v5 v6 v7 v8 v9:Value) (m:Mod d) (w:World) (hI:I w) (hM:ModAt w d v0 v1 v2 v3 v4 v5 v6 v7 v8 v9 m) (hO:ModOk v3 v4 m) (W:chk m=0->Wr m) :
  Calls Tryz.prog 9 #[.agg #[v0,v1,v2,v3,v4,v5,v6,v7,v8,v9]] w fun e w'=>e=.returned (encA m)/\Below w.heap.size w w':=by
 unfold encA
 by_cases h0:chk m=0
 ·rw [if_pos h0];exact pEncode1 C d v0 v1 v2 v3 v4 v5 v6 v7 v8 v9 m w hI hM hO h0 (W h0)
 ·rw [if_neg h0];exact pEncode0 C d v0 v1 v2 v3 v4 v5 v6 v7 v8 v9 m w hI hM hO h0
end Go.Proofs.YtlcpagiljfpbpaaGreatDoor

namespace Go.Proofs.YtlcpagiljfpbpaaGreatDoor
open Go.RowKit Rep Enc Go.Lib
set_option linter.unusedVariables false
namespace Enc
end Enc
end Go.Proofs.YtlcpagiljfpbpaaGreatDoor

namespace Go.Proofs.YtlcpagiljfpbpaaGreatDoor
open Go.RowKit Rep Enc Go.Lib
set_option linter.unusedVariables false
namespace Enc
def longI:Ins (IL 1):=⟨65,0,0,0,[],([]:List (Ins (IL 0))),([]:List (Ins (IL 0)))⟩
def longM (s:ByteArray):Mod 1:=⟨[],[],[],[],[⟨1,0,false⟩],[],[],[],[],[⟨longI,s⟩]⟩
theorem longM_chk {s:ByteArray} (h:s.size<=262144):chk (longM s)=0:=by
 have h1:fewM (longM s)=true:=by
  have:room 262144 (longM s).datas=true:=by
   show (decide (s.size<=262144) && true)=true
   rw [Bool.and_true];exact decide_eq_true h
  unfold fewM
  rw [this];rfl
 have h2:shM (longM s)=true:=by
  show (_ && _)=true
  rfl
 unfold chk
 rw [if_pos h1,if_pos h2]
 rfl
theorem longM_big {s:ByteArray} (h:262144<s.size):chk (longM s)=3:=by
 have h1:¬ fewM (longM s)=true:=by
  intro hf
  unfold fewM at hf
  simp only [Bool.and_eq_true] at hf
  have:=room_le _ _ hf.2.2.2.2.2.2 ⟨longI,s⟩ (List.mem_singleton.2 rfl)
  have h2:s.size<=262144:=this
  omega
 unfold chk
 rw [if_neg h1]
theorem longM_NR (s:ByteArray):NRM (longM s):=by
 refine ⟨fun x hx=>(by cases hx),fun x hx=>(by cases hx),fun x hx=>(by cases hx),fun x hx=>?_⟩
 rw [List.mem_singleton.1 hx]
 exact ⟨by show (-9223372036854775808:Int)<=0/\(0:Int)<=9223372036854775807;omega,NR_empty 1 _ rfl,NR_empty 1 _ rfl⟩
theorem longM_len {s:ByteArray} (h:s.size<=262144):s.size<(modB (longM s)).length/\(modB (longM s)).length<=s.size+40:=by
 have e5:(insB (bytesI 1) (size 1) longI).length=2:=by decide +kernel
 have e4:(limB ⟨1,0,false⟩).length=2:=by decide +kernel
 have u1:(Leb.uB (1:Int)).length=1:=by decide +kernel
 have us:=Leb.uB_len 3 (s.size:Int) (by omega) (by omega)
 have hd:(datB (⟨longI,s⟩:Dat 1)).length=4+(Leb.uB (s.size:Int)).length+s.size:=by
  unfold datB texB
  simp only [List.length_append,List.length_cons,List.length_nil,e5,nums_len];omega
 have hl:(lisB datB (longM s).datas).length=5+(Leb.uB (s.size:Int)).length+s.size:=by
  show (Leb.uB (1:Int)++(datB (⟨longI,s⟩:Dat 1)++[])).length=_
  rw [List.append_nil,List.length_append,u1,hd];omega
 have ul:=Leb.uB_len 3 ((lisB datB (longM s).datas).length:Int) (by omega) (by rw [hl];omega)
 have hm:(lisB limB (longM s).mems).length=3:=by
  show (lisB limB [⟨1,0,false⟩]).length=3
  decide +kernel
 have um:(Leb.uB (3:Int)).length=1:=by decide +kernel
 have s5:(secB 5 1 (lisB limB (longM s).mems)).length=5:=by
  unfold secB sizB
  rw [if_neg (by omega)]
  simp only [List.length_append,List.length_cons,List.length_nil,hm]
  show 0+1+((Leb.uB (3:Int)).length+3)=5
  rw [um]
 have s11:(secB 11 1 (lisB datB (longM s).datas)).length=1+((Leb.uB ((lisB datB (longM s).datas).length:Int)).length+(lisB datB (longM s).datas).length):=by
  unfold secB sizB
  rw [if_neg (by omega)]
  simp only [List.length_append,List.length_cons,List.length_nil]
 have hz:∀(id:Int) (b:List Int),(secB id 0 b).length=0:=fun id b=>by unfold secB;rw [if_pos rfl];rfl
 have e:(modB (longM s)).length=8+5+(1+((Leb.uB ((lisB datB (longM s).datas).length:Int)).length+(lisB datB (longM s).datas).length)):=by
  rw [<- s11,<- s5]
  unfold modB
  simp only [List.length_append,List.length_cons,List.length_nil]
  show 8+(secB 1 0 _).length+(secB 2 0 _).length+(secB 3 0 _).length+(secB 4 0 _).length+(secB 5 1 _).length+(secB 6 0 _).length+(secB 7 0 _).length+(secB 8 0 _).length+(secB 9 0 _).length+(secB 10 0 _).length+(secB 11 1 _).length=_
  simp only [hz]
  omega
 omega
theorem long_ans (s:ByteArray):∃S E,encA (longM s)=.tuple #[.string S,.int .i64 E]/\(262144<s.size->E=3)/\(s.size<262044->E=0/\s.size<S.size/\S.size<=s.size+40):=by
 unfold encA
 by_cases h:s.size<=262144
 ·rw [if_pos (longM_chk h),told_eq]
  refine ⟨_,_,rfl,fun h'=>by omega,fun h'=>?_⟩
  have hl:=longM_len h
  unfold toldE toldS
  rw [if_neg (by omega),if_neg (by omega),strNums_size]
  exact ⟨rfl,hl.1,hl.2⟩
 ·have h3:=longM_big (s:=s) (by omega)
  rw [if_neg (by omega),h3]
  exact ⟨_,_,rfl,fun _=>rfl,fun h'=>by omega⟩
end Enc
end Go.Proofs.YtlcpagiljfpbpaaGreatDoor

namespace Go.Proofs.YtlcpagiljfpbpaaGreatDoor
open Go.RowKit Rep Enc Go.Lib
set_option linter.unusedVariables false
namespace Enc
theorem row_nil {α:Type} {k:Nat} {f:Nat->Nat->α->Prop}:Row k f (.slice none 0 0) []:=⟨by simp,.inl ⟨rfl,none,0,rfl⟩⟩
end Enc
end Go.Proofs.YtlcpagiljfpbpaaGreatDoor

namespace Go.Proofs.YtlcpagiljfpbpaaGreatDoor
open Go.RowKit Rep Enc Go.Lib
set_option linter.unusedVariables false
namespace Enc
theorem long_at {s:ByteArray} {w:World} {g1 g2:Nat} (h1:Bx w g1 50 #[.int .i64 1,.int .i64 0,.bool false]) (h2:Bx w g2 55 #[.int .i64 65,.int .i64 0,.int .i64 0,.int .i64 0,.slice none 0 0,.slice none 0 0,.slice none 0 0,.string s]) :
  ModAt w 1 (.slice none 0 0) (.slice none 0 0) (.slice none 0 0) (.slice none 0 0) (.slice (some ⟨g1,0,none⟩) 1 1) (.slice none 0 0) (.slice none 0 0) (.slice none 0 0) (.slice none 0 0) (.slice (some ⟨g2,0,none⟩) 1 1) (longM s) :=
 ⟨row_nil,row_nil,row_nil,row_nil,⟨by show 1<=_;omega,.inr ⟨g1,0,1,rfl,fun i x hi=>by
  match i,hi with
  | 0,hi =>
   obtain rfl:(⟨1,0,false⟩:Lim)=x:=by simpa [longM] using hi
   exact ⟨h1.cell 0 _ rfl,h1.cell 1 _ rfl,h1.cell 2 _ rfl⟩
  | i+1,hi=>simp [longM] at hi⟩⟩,row_nil,row_nil,row_nil,row_nil,⟨by show 1<=_;omega,.inr ⟨g2,0,1,rfl,fun i x hi=>by
  match i,hi with
  | 0,hi =>
   obtain rfl:(⟨longI,s⟩:Dat 1)=x:=by simpa [longM] using hi
   exact ⟨⟨h2.cell 0 _ rfl,h2.cell 1 _ rfl,h2.cell 2 _ rfl,h2.cell 3 _ rfl,⟨_,h2.cell 4 _ rfl,row_nil⟩,⟨_,h2.cell 5 _ rfl,row_nil⟩,⟨_,h2.cell 6 _ rfl,row_nil⟩⟩,h2.cell 7 _ rfl⟩
  | i+1,hi=>simp [longM] at hi⟩⟩⟩
theorem long_ok {g1:Nat} (s:ByteArray) (h:s.size<=300000):ModOk (.slice none 0 0) (.slice (some ⟨g1,0,none⟩) 1 1) (longM s) :=
 ⟨by omega,fun x hx=>by rw [List.mem_singleton.1 hx];show s.size<=_;omega,⟨fun x hx=>(by cases hx),fun x hx=>(by cases hx)⟩,fun n c h=>by injection h with _ _ h;exact h.symm,fun n c h=>by injection h with h;cases h⟩
def sBx (t:TypeId) (cs:Array Value):Stab:=⟨fun v w=>∃g,v=.slice (some ⟨g,0,none⟩) 1 1/\Bx w g t cs,fun v w w' ⟨g,h1,h2⟩ hb=>⟨g,h1,by have h3:w.heap[g]?=some (.cells cs t):=h2;show w'.heap[g]?=_;rw [hb.block g (Array.getElem?_eq_some_iff.1 h3).1];exact h3⟩⟩
def sZs (n:Nat):Stab:=⟨fun v w=>∃g,v=.slice (some ⟨g,0,none⟩) n n/\∀i,i<n->w.cell? ⟨g,i,none⟩=some (.int .u8 0),fun v w w' ⟨g,h1,h2⟩ hb=>⟨g,h1,fun i hi=>cell_on hb (h2 i hi)⟩⟩
def zs (n:Nat):ByteArray:=strOfNums (List.replicate n 0)
theorem zs_size (n:Nat):(zs n).size=n:=by unfold zs;rw [strNums_size,List.length_replicate]
end Enc
end Go.Proofs.YtlcpagiljfpbpaaGreatDoor

