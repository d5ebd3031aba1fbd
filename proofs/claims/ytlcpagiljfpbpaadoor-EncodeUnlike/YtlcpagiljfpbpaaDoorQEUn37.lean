/- Texts that the claim needs. -/
import Derived.Test.YtlcpagiljfpbpaaDoorQEUn33
import Derived.Test.YtlcpagiljfpbpaaDoorQEUn34
import Derived.Test.YtlcpagiljfpbpaaDoorQEUn36
import Derived.Test.YtlcpagiljfpbpaaDoorQEUn30
import Derived.Lib.SlBytesConst
import Derived.Laws.EntriesVeiled
import Derived.Test.YtlcpagiljfpbpaaDoorQEUn26
import Derived.Test.YtlcpagiljfpbpaaDoorQEUn32
namespace Go.Proofs.YtlcpagiljfpbpaaDoor
open Go.RowKit Rep
set_option linter.unusedVariables false
namespace Rep
structure ModOk {d:Nat} (v3 v4:Value) (m:Mod d):Prop where
 deep:d<=4611686018427387904
 datas:∀x ∈ m.datas,x.bytes.size<=9223372036854775807
 texts:Texts m
 tables:∀n c,v3=.slice none n c->c=0
 mems:∀n c,v4=.slice none n c->c=0
theorem fewM_lens {d:Nat} {m:Mod d} (h:fewM m=true):m.tables.length<=4096/\m.mems.length<=4096:=by
 unfold fewM at h
 rw [Bool.and_eq_true] at h
 have h1:=List.all_eq_true.1 h.1
 have a:=h1 (len m.tables) (by simp)
 have b:=h1 (len m.mems) (by simp)
 have a:=of_decide_eq_true (p:=((m.tables.length:Int)<=4096)) a
 have b:=of_decide_eq_true (p:=((m.mems.length:Int)<=4096)) b
 omega
end Rep
theorem pCheckC {I:World->Prop} (C:WastC I) (d:Nat) (v0 v1 v2 v3 v4 v5 v6 v7 v8 v9:Value) (m:Mod d) (w:World) (hI:I w) (hM:ModAt w d v0 v1 v2 v3 v4 v5 v6 v7 v8 v9 m) (hO:ModOk v3 v4 m) :
  Calls Tryd.prog 13 #[.agg #[v0,v1,v2,v3,v4,v5,v6,v7,v8,v9]] w fun e w'=>e=.returned (.int .i64 (chk m))/\Below w.heap.size w w':=by
 refine pCheck C.toFormC d hO.deep v0 v1 v2 v3 v4 v5 v6 v7 v8 v9 m w hI hM hO.datas fun hf w' hb=>?_
 have hl:=fewM_lens hf
 have hM':=hM.on hb
 obtain ⟨o3,c3,e3⟩:=Row.len hM'.tables
 obtain ⟨o4,c4,e4⟩:=Row.len hM'.mems
 refine pneedShapes C d v0 v1 v2 v3 v4 v5 v6 v7 v8 v9 m w' (C.keep hb hI) hM' hO.texts fun u b hu k0 k1=>?_
 have hM2:=hM'.on hu
 have r3:=hM2.tables
 have r4:=hM2.mems
 rw [e3] at r3 k0
 rw [e4] at r4 k1
 refine pConcat m.tables m.mems o3 o4 c3 c4 u b r3 r4 (fun h=>?_) (fun h=>?_) k0 k1 hl.1 hl.2
 ·subst h;exact hO.tables _ _ e3
 ·subst h;exact hO.mems _ _ e4
theorem wastC {I:World->Prop} (C:ReckC I) (hU:∀w,I w->UtfI w):WastC I :=
 { toFormC:=formC C,name:=fun s w h hs=>pName s w hs (hU w h) }
theorem utfI_on {w w':World} (hb:Below w.heap.size w w') (h:UtfI w):UtfI w':=Utf8Tabs_below h hb
end Go.Proofs.YtlcpagiljfpbpaaDoor

namespace Go.Proofs.YtlcpagiljfpbpaaDoor
open Go.RowKit Rep Enc Go.Lib
set_option linter.unusedVariables false
namespace Enc
def toldS (bs:List Int):ByteArray:=if 262144<bs.length then ⟨#[]⟩ else strOfNums bs
def toldE (bs:List Int):Int:=if 262144<bs.length then 2 else 0
theorem told_eq (bs:List Int):told bs=.tuple #[.string (toldS bs),.int .i64 (toldE bs)]:=by
 unfold told toldS toldE;split<;>rfl
theorem told_adds {a x b:List Int} (h:Adds a x b):told b=told (a++x):=by
 rcases h with rfl|⟨h1,h2,_⟩
 ·rfl
 ·unfold told;rw [if_pos h1,if_pos (by rw [List.length_append];exact h2)]
def WX (w0:World) (p:Nat) (c:Nat->Value) (v:Value) (b:List Int) (w:World):Prop:=WS w0 p c v b w\/(b=headB/\WN w0 p c v w)
section
variable {w0 w w':World} {p:Nat} {c:Nat->Value} {v:Value} {b:List Int}
theorem WX.on (h:WX w0 p c v b w) (hb:Below w.heap.size w w'):WX w0 p c v b w':=h.imp (fun h=>h.on hb) fun h=>⟨h.1,h.2.on hb⟩
theorem WX.lt (h:WX w0 p c v b w):p<w.heap.size:=by
 rcases h with h|⟨_,h⟩
 ·exact h.lt
 ·exact h.lt
theorem WX.own (h:WX w0 p c v b w):∀k,v.ownBlock=some k->k<w.heap.size:=by
 rcases h with h|⟨_,h⟩
 ·exact fun k hk=>(h.own.lt k hk).2
 ·obtain ⟨g,rfl,_,_,hg⟩:=h.row
  intro k hk
  have:g=k:=by simpa [Value.ownBlock] using hk
  subst this
  exact (Array.getElem?_eq_some_iff.1 hg).1
theorem WX.below (h:WX w0 p c v b w):Below w0.heap.size w0 w:=by
 rcases h with h|⟨_,h⟩
 ·exact h.below
 ·exact h.below
theorem WX.put (h:WX w0 p c v b w) (hn:b.length<=100000000000000):PutC w0 p c v b w:=by
 rcases h with h|⟨rfl,h⟩
 ·exact PutC.of h hn
 ·exact fun b w' hb=>wPutN w0 p c v b w' (h.on hb)
theorem WX.told (h:WX w0 p c v b w) (hn:b.length<=100000000000000) (h0:0<b.length):Calls Tryd.prog 16 #[.pointer (some ⟨p,0,none⟩)] w fun e w'=>e=.returned (told b)/\w'=w:=by
 rcases h with h|⟨rfl,h⟩
 ·exact wTold w0 p c v b w h hn h0
 ·exact wToldN w0 p c v w h
end
theorem wSec (w0:World) (p:Nat) (c:Nat->Value) (id:Int) (n:Nat) (F:FuncId) (f:Nat->List Int) (v:Value) (b:List Int) (w:World) (h:WX w0 p c v b w) (hS:SecIn w0 p c id n F f) (hid:0<=id/\id<=255) (hlen:b.length+(secB id n (insideB id n f)).length<=38800000000000) :
  Calls Tryd.prog 15 #[.pointer (some ⟨p,0,none⟩),.agg #[.int .i64 id,.int .i64 (n:Nat),.func (.func F) #[.pointer (some ⟨p,0,none⟩)] #[]]] w fun e w'=>∃v' b',e=.returned (.tuple #[])/\WX w0 p c v' b' w'/\Kept p v w v' w'/\So b (secB id n (insideB id n f)) b':=by
 rcases Nat.eq_zero_or_pos n with rfl|hn
 ·refine (wSection0 p id F w).mono ?_
  rintro e w' ⟨rfl,hb⟩
  exact ⟨v,b,rfl,h.on hb,Kept.below hb,by unfold secB;rw [if_pos rfl];exact So.refl b⟩
 ·have hs:secB id n (insideB id n f) = [id]++sizB (insideB id n f):=by unfold secB;rw [if_neg (by omega)]
  rw [hs] at hlen ⊢
  refine (wSection w0 p c id n F f v b w (h.put (by omega)) h.lt h.own hS hn hid (by unfold sizB at hlen;simp only [List.length_append] at hlen;omega)).mono ?_
  rintro e w' ⟨v',b',rfl,h1,h2,h3,h4⟩
  exact ⟨v',b',rfl,.inl h1,h2,h3,h4⟩
def encA {d:Nat} (m:Mod d):Value:=if chk m=0 then told (modB m) else .tuple #[.string ⟨#[]⟩,.int .i64 (chk m)]
end Enc
set_option maxRecDepth 100000 in
set_option maxHeartbeats 4000000 in
theorem pEncode0 {I:World->Prop} (C:WastC I) (d:Nat) (v0 v1 v2 v3 v4 v5 v6 v7 v8 v9:Value) (m:Mod d) (w:World) (hI:I w) (hM:ModAt w d v0 v1 v2 v3 v4 v5 v6 v7 v8 v9 m) (hO:ModOk v3 v4 m) (h0:chk m≠0) :
  Calls Tryd.prog 7 #[.agg #[v0,v1,v2,v3,v4,v5,v6,v7,v8,v9]] w fun e w'=>e=.returned (.tuple #[.string ⟨#[]⟩,.int .i64 (chk m)])/\Below w.heap.size w w':=by
 have hb:=new_on' w (.cells #[v0,v1,v2,v3,v4,v5,v6,v7,v8,v9] 32)
 have HB:=hideR hb
 obtain ⟨o0,k0,rfl⟩:=Row.len hM.types
 obtain ⟨o1,k1,rfl⟩:=Row.len hM.imports
 obtain ⟨o2,k2,rfl⟩:=Row.len hM.funcs
 obtain ⟨o3,k3,rfl⟩:=Row.len hM.tables
 obtain ⟨o4,k4,rfl⟩:=Row.len hM.mems
 obtain ⟨o5,k5,rfl⟩:=Row.len hM.globals
 obtain ⟨o6,k6,rfl⟩:=Row.len hM.exports
 obtain ⟨o7,k7,rfl⟩:=Row.len hM.start
 obtain ⟨o8,k8,rfl⟩:=Row.len hM.elems
 obtain ⟨o9,k9,rfl⟩:=Row.len hM.datas
 have HC:=hideR (pCheckC C d _ _ _ _ _ _ _ _ _ _ m _ (C.keep hb hI) (hM.on hb) hO)
 clear hM hO hI hb
 generalize m.types.length=n0 at *
 generalize m.imports.length=n1 at *
 generalize m.funcs.length=n2 at *
 generalize m.tables.length=n3 at *
 generalize m.mems.length=n4 at *
 generalize m.globals.length=n5 at *
 generalize m.exports.length=n6 at *
 generalize m.start.length=n7 at *
 generalize m.elems.length=n8 at *
 generalize m.datas.length=n9 at *
 generalize chk m=r at *
 go_enter Tryd.func7,Tryd.ntmps7
 go_wp2_with fail
 refine HC.out.mono ?_
 rintro e w1 ⟨rfl,hb1⟩
 have HB1:=hideR (HB.out.trans (hb1.mono HB.out.size))
 clear hb1 HB HC
 go_wp2
 go_ret2
 exact ⟨rfl,HB1.out⟩
set_option maxRecDepth 100000 in
set_option maxHeartbeats 4000000 in
theorem pEncode1 {I:World->Prop} (C:WastC I) (d:Nat) (v0 v1 v2 v3 v4 v5 v6 v7 v8 v9:Value) (m:Mod d) (w:World) (hI:I w) (hM:ModAt w d v0 v1 v2 v3 v4 v5 v6 v7 v8 v9 m) (hO:ModOk v3 v4 m) (h0:chk m=0) (W:Wr m) :
  Calls Tryd.prog 7 #[.agg #[v0,v1,v2,v3,v4,v5,v6,v7,v8,v9]] w fun e w'=>e=.returned (told (modB m))/\Below w.heap.size w w':=by
 have hkc:=fun (w:World) (C:Array Value) (n c:Nat)=>Lib.run_convert_bytes_const (P:=Tryd.prog) w 59 5 C n c Tryd.underlying59 Tryd.underlying5
 have hb:=new_on' w (.cells #[v0,v1,v2,v3,v4,v5,v6,v7,v8,v9] 32)
 have hC0:Calls Tryd.prog 13 #[.agg #[v0,v1,v2,v3,v4,v5,v6,v7,v8,v9]] (w.alloc (.cells #[v0,v1,v2,v3,v4,v5,v6,v7,v8,v9] 32)) fun e w'=>e=.returned (.int .i64 0)/\Below (w.alloc (.cells #[v0,v1,v2,v3,v4,v5,v6,v7,v8,v9] 32)).heap.size (w.alloc (.cells #[v0,v1,v2,v3,v4,v5,v6,v7,v8,v9] 32)) w':=by
  have:=pCheckC C d _ _ _ _ _ _ _ _ _ _ m _ (C.keep hb hI) (hM.on hb) hO
  rw [h0] at this;exact this
 have HBX:=hideR (Bx.new (w:=w) (b:=w.heap.size) (t:=32) (cs:=#[v0,v1,v2,v3,v4,v5,v6,v7,v8,v9]) rfl)
 obtain ⟨c,hc⟩:∃c:Nat->Value,c=fun i=>(#[v0,v1,v2,v3,v4,v5,v6,v7,v8,v9]).getD i undef:=⟨_,rfl⟩
 have HSEC:Hid (∀(p j:Nat),j<11->∃(id:Int) (n:Nat) (F:FuncId) (f:Nat->List Int),(secCells p (ln m))[j*3]?=some (.int .i64 id)/\(secCells p (ln m))[j*3+1]?=some (.int .i64 (n:Nat))/\(secCells p (ln m))[j*3+2]?=some (.func (.func F) #[.pointer (some ⟨p,0,none⟩)] #[])/\(0<=id/\id<=255)/\SecIn w p c id n F f/\sb m j=secB id n (insideB id n f)) :=
  hideR fun p j hj=>secs_ok C.toFormC w hI p c d m (by rw [hc];exact hM) W j hj
 have HWN:Hid (∀w1:World,Below w.heap.size w w1->WN w (w1.heap.size+1) c (.slice (some ⟨w1.heap.size,0,none⟩) 8 8) ((w1.alloc (.cells #[.int .u8 0,.int .u8 97,.int .u8 115,.int .u8 109,.int .u8 1,.int .u8 0,.int .u8 0,.int .u8 0] 5 (8,9))).alloc (.cells #[v0,v1,v2,v3,v4,v5,v6,v7,v8,v9,.slice (some ⟨w1.heap.size,0,none⟩) 8 8] 61))):=hideR fun w1 hb1 =>
  ⟨hb1.trans ((((Below.refl _ w1).alloc (Nat.le_refl _) _).alloc (by simp) _).mono hb1.size),by have:=hb1.size;omega,by rw [hc];exact heap_new1 _ _ _,w1.heap.size,rfl,hb1.size,by omega,by
   have h1:=new_on' (w1.alloc (.cells #[.int .u8 0,.int .u8 97,.int .u8 115,.int .u8 109,.int .u8 1,.int .u8 0,.int .u8 0,.int .u8 0] 5 (8,9))) (.cells #[v0,v1,v2,v3,v4,v5,v6,v7,v8,v9,.slice (some ⟨w1.heap.size,0,none⟩) 8 8] 61)
   rw [h1.block _ (by simp)]
   exact heap_new _ _⟩
 have HMB:Hid (modB m=headB++fstB (sb m) 11/\(modB m).length<=38000000000000):=hideR ⟨modB_sb m,W.short⟩
 have HB:=hideR hb
 have HC:=hideR hC0
 obtain ⟨o0,k0,rfl⟩:=Row.len hM.types
 obtain ⟨o1,k1,rfl⟩:=Row.len hM.imports
 obtain ⟨o2,k2,rfl⟩:=Row.len hM.funcs
 obtain ⟨o3,k3,rfl⟩:=Row.len hM.tables
 obtain ⟨o4,k4,rfl⟩:=Row.len hM.mems
 obtain ⟨o5,k5,rfl⟩:=Row.len hM.globals
 obtain ⟨o6,k6,rfl⟩:=Row.len hM.exports
 obtain ⟨o7,k7,rfl⟩:=Row.len hM.start
 obtain ⟨o8,k8,rfl⟩:=Row.len hM.elems
 obtain ⟨o9,k9,rfl⟩:=Row.len hM.datas
 have HCI:Hid (∀i,i<10->c i=.slice ((#[o0,o1,o2,o3,o4,o5,o6,o7,o8,o9]).getD i none) (ln m i) ((#[k0,k1,k2,k3,k4,k5,k6,k7,k8,k9]).getD i 0)):=hideR fun i hi=>by
  rw [hc]
  match i,hi with
  | 0,_=>rfl|1,_=>rfl|2,_=>rfl|3,_=>rfl|4,_=>rfl|5,_=>rfl|6,_=>rfl|7,_=>rfl|8,_=>rfl|9,_=>rfl
 clear hM hO hI hb hC0 hc W
 obtain ⟨S,E,hSE⟩:∃S E,told (modB m)=.tuple #[.string S,.int .i64 E]:=⟨_,_,told_eq _⟩
 rw [hSE]
 have HSE:=hideR hSE
 clear hSE
 generalize m.types.length=n0 at *
 generalize m.imports.length=n1 at *
 generalize m.funcs.length=n2 at *
 generalize m.tables.length=n3 at *
 generalize m.mems.length=n4 at *
 generalize m.globals.length=n5 at *
 generalize m.exports.length=n6 at *
 generalize m.start.length=n7 at *
 generalize m.elems.length=n8 at *
 generalize m.datas.length=n9 at *
 go_enter Tryd.func7,Tryd.ntmps7
 go_wp2_with fail
 refine HC.out.mono ?_
 rintro e w1 ⟨rfl,hb1⟩
 have HBX1:Hid (Bx w1 w.heap.size 32 #[.slice o0 n0 k0,.slice o1 n1 k1,.slice o2 n2 k2,.slice o3 n3 k3,.slice o4 n4 k4,.slice o5 n5 k5,.slice o6 n6 k6,.slice o7 n7 k7,.slice o8 n8 k8,.slice o9 n9 k9]):=hideR (by unfold Bx;rw [hb1.block _ HBX.out.lt];exact HBX.out)
 have HB1:=hideR (HB.out.trans (hb1.mono HB.out.size))
 clear hb1 HB HC HBX
 have q0:=HBX1.out.cell 0 _ rfl
 have q1:=HBX1.out.cell 1 _ rfl
 have q2:=HBX1.out.cell 2 _ rfl
 have q3:=HBX1.out.cell 3 _ rfl
 have q4:=HBX1.out.cell 4 _ rfl
 have q5:=HBX1.out.cell 5 _ rfl
 have q6:=HBX1.out.cell 6 _ rfl
 have q7:=HBX1.out.cell 7 _ rfl
 have q8:=HBX1.out.cell 8 _ rfl
 have q9:=HBX1.out.cell 9 _ rfl
 go_upto_region 5 with fail
 obtain ⟨w2,hw2⟩:∃w2,w2=((w1.alloc (.cells #[.int .u8 0,.int .u8 97,.int .u8 115,.int .u8 109,.int .u8 1,.int .u8 0,.int .u8 0,.int .u8 0] 5 (8,9))).alloc (.cells #[.slice o0 n0 k0,.slice o1 n1 k1,.slice o2 n2 k2,.slice o3 n3 k3,.slice o4 n4 k4,.slice o5 n5 k5,.slice o6 n6 k6,.slice o7 n7 k7,.slice o8 n8 k8,.slice o9 n9 k9,.slice (some ⟨w1.heap.size,0,none⟩) 8 8] 61)):=⟨_,rfl⟩
 have HN:=hideR (HWN.out w1 HB1.out)
 rw [<- hw2] at HN ⊢
 clear hw2 q0 q1 q2 q3 q4 q5 q6 q7 q8 q9 HBX1 HB1 HWN hkc
 have HS:=hideR (HSEC.out (w1.heap.size+1))
 clear HSEC
 generalize hp:w1.heap.size+1=p at HN HS ⊢
 generalize hg:w1.heap.size=g0 at *
 clear hp hg
 have HC:=hideR (wSections p _ _ _ w2 (fun i hi=>by rw [HN.out.fld i hi];exact congrArg some (HCI.out i hi)))
 go_wp2_with fail
 refine HC.out.mono ?_
 rintro e w3 ⟨rfl,hsc,hb3⟩
 clear HC HCI
 have HBS:Hid (Bx w3 (w2.heap.size+1) 66 (secCells p (ln m))):=hideR hsc
 have HNE:Hid (w2.heap.size+1≠p/\w2.heap.size+1≠g0):=hideR ⟨by have:=HN.out.lt;omega,by
  obtain ⟨g,h1,_,_,h4⟩:=HN.out.row
  injection h1 with h1 _ _
  injection h1 with h1
  injection h1 with h1 _ _
  have:=(Array.getElem?_eq_some_iff.1 h4).1
  omega⟩
 have HX3:Hid (WX w p c (.slice (some ⟨g0,0,none⟩) 8 8) headB w3):=hideR (.inr ⟨rfl,HN.out.on hb3⟩)
 clear hsc hb3 HN
 generalize w2.heap.size+1=gs at *
 go_wp2_with fail
 go_loopw [21] (fun i wr=>∃(j:Nat) (v:Value) (b:List Int),j<=11/\i=.int .i64 j/\Hid (WX w p c v b wr)/\Hid (Kept p (.slice (some ⟨g0,0,none⟩) 8 8) w3 v wr)/\Hid (So headB (fstB (sb m) j) b)) (fun i _=>11-(Lib.intOf i).toNat)
 case atStart=>exact ⟨0,_,_,by omega,rfl,HX3,hideR (Kept.refl _ _ _),hideR (So.refl _)⟩
 case round =>
  clear HX3
  obtain ⟨j,v,b,hj,rfl,HX,HK,HSO⟩:=hrel
  by_cases hgo:j<11
  ·obtain ⟨id,n,F,f,e0,e1,e2,hid,hSI,hsb⟩:=HS.out j hgo
   obtain ⟨bS,_⟩:=HK.out.bx HBS.out HNE.out.1 (fun e=>HNE.out.2 (by simpa [Value.ownBlock] using e))
   have z0:=bS.cell _ _ e0
   have z1:=bS.cell _ _ e1
   have z2:=bS.cell _ _ e2
   clear bS e0 e1 e2
   have hfs:=fstB_le (sb m) (j+1) 11 (by omega)
   have hfe:fstB (sb m) (j+1)=fstB (sb m) j++secB id n (insideB id n f):=by show fstB (sb m) j++sb m j=_;rw [hsb]
   rw [hfe,List.length_append] at hfs
   have HFE:=hideR hfe
   have hml:=HMB.out
   rw [hml.1,List.length_append] at hml
   have hbl:b.length+(secB id n (insideB id n f)).length<=38800000000000:=by have:=HSO.out.2;omega
   obtain ⟨u1,hu1⟩:∃u1,u1=wr.alloc (.cells #[.int .i64 id,.int .i64 (n:Nat),.func (.func F) #[.pointer (some ⟨p,0,none⟩)] #[]] 66):=⟨_,rfl⟩
   have hbu:Below wr.heap.size wr u1:=by rw [hu1];exact new_on' _ _
   have hbx:Bx u1 wr.heap.size 66 #[.int .i64 id,.int .i64 (n:Nat),.func (.func F) #[.pointer (some ⟨p,0,none⟩)] #[]]:=by rw [hu1];exact Bx.new rfl
   have y0:=hbx.cell 0 _ rfl
   have y1:=hbx.cell 1 _ rfl
   have y2:=hbx.cell 2 _ rfl
   have HCS:=hideR (wSec w p c id n F f v b u1 (HX.out.on hbu) hSI hid hbl)
   have HK1:=hideR (HK.out.trans (Kept.below (p:=p) (v:=v) hbu))
   have HU:=hideR hu1
   clear hsb hfs hfe hml hbl hu1 hbu hbx hSI hid HX HK
   go_upto_region 8 with fail
   rw [<- HU.out]
   clear HU z0 z1 z2
   generalize wr.heap.size=p3 at *
   go_wp2_with fail
   refine HCS.out.mono ?_
   rintro e w4 ⟨v4,b4,rfl,h4,k4,s4⟩
   have HX4:=hideR h4
   have HK4:=hideR (HK1.out.trans k4)
   have HSO4:Hid (So headB (fstB (sb m) (j+1)) b4):=hideR (by rw [HFE.out];exact HSO.out.adds s4.1 s4.2)
   clear h4 k4 s4 HCS HK1 y0 y1 y2
   go_wp2
   go_roundw
   case rel=>exact ⟨j+1,v4,b4,by omega,by go_num,HX4,HK4,HSO4⟩
   case measure=>simp [Lib.intOf];omega
  ·obtain rfl:j=11:=by omega
   have hlb:headB.length<=b.length:=HSO.out.1.le
   have HC:=hideR (HX.out.told (by
    have h1:=HSO.out.2
    have h2:=HMB.out
    rw [h2.1,List.length_append] at h2
    omega) (by have:headB.length=8:=rfl;omega))
   have ht:told b=.tuple #[.string S,.int .i64 E]:=by rw [told_adds HSO.out.1,<- HMB.out.1];exact HSE.out
   rw [ht] at HC
   have HBW:=hideR HX.out.below
   clear hlb ht
   go_wp2_with fail
   refine HC.out.mono ?_
   rintro e w5 ⟨rfl,rfl⟩
   go_wp2
   go_ret2
   exact ⟨rfl,HBW.out⟩
theorem pEncode {I:World->Prop} (C:WastC I) (d:Nat) (v0 v1 v2 v3 v4 v5 v6 v7 v8 v9:Value) (m:Mod d) (w:World) (hI:I w) (hM:ModAt w d v0 v1 v2 v3 v4 v5 v6 v7 v8 v9 m) (hO:ModOk v3 v4 m) (W:chk m=0->Wr m) :
  Calls Tryd.prog 7 #[.agg #[v0,v1,v2,v3,v4,v5,v6,v7,v8,v9]] w fun e w'=>e=.returned (encA m)/\Below w.heap.size w w':=by
 unfold encA
 by_cases h0:chk m=0
 ·rw [if_pos h0];exact pEncode1 C d v0 v1 v2 v3 v4 v5 v6 v7 v8 v9 m w hI hM hO h0 (W h0)
 ·rw [if_neg h0];exact pEncode0 C d v0 v1 v2 v3 v4 v5 v6 v7 v8 v9 m w hI hM hO h0
end Go.Proofs.YtlcpagiljfpbpaaDoor

namespace Go.Proofs.YtlcpagiljfpbpaaDoor
open Go.RowKit Rep Enc Go.Lib
set_option linter.unusedVariables false
namespace Enc
def wakeM:Mod 0:={ types:=[⟨[],[]⟩],imports:=[],funcs:=[],tables:=[],mems:=[],globals:=[],exports:=[],start:=[],elems:=[],datas:=[] }
theorem row_no {α:Type} {k:Nat} {f:Nat->Nat->α->Prop}:Row k f (.slice none 0 0) []:=⟨by simp,.inl ⟨rfl,none,0,rfl⟩⟩
theorem wake_chk:chk wakeM=0:=by decide
theorem wake_wr:Wr wakeM:=⟨fun x hx=>by rw [List.mem_singleton.1 hx];exact ⟨by decide,by decide⟩,fun x hx=>(by cases hx),fun x hx=>(by cases hx),fun x hx=>(by cases hx),fun x hx=>(by cases hx),fun x hx=>(by cases hx),fun x hx=>(by cases hx),fun x hx=>(by cases hx),fun x hx=>(by cases hx),fun x hx=>(by cases hx),by decide,by decide,fun x hx=>(by cases hx),by decide⟩
theorem wake_told:told (modB wakeM)=.tuple #[.string ⟨#[0,97,115,109,1,0,0,0,1,4,1,96,0,0]⟩,.int .i64 0]:=by
 have h:modB wakeM = [0,97,115,109,1,0,0,0,1,4,1,96,0,0]:=by decide
 rw [h];unfold told;rw [if_neg (by decide)];rfl
end Enc
set_option maxRecDepth 100000 in
set_option maxHeartbeats 4000000 in
theorem pWake {I:World->Prop} (C:WastC I) (w:World) (hI:I w):Calls Tryd.prog 6 #[] w fun e w'=>e=.returned (.bool true)/\Below w.heap.size w w':=by
 have hb:=new_on' w (.cells #[.slice none 0 0,.slice none 0 0] 48)
 have hx:=Bx.new (w:=w) (b:=w.heap.size) (t:=48) (cs:=#[.slice none 0 0,.slice none 0 0]) rfl
 have hM:ModAt (w.alloc (.cells #[.slice none 0 0,.slice none 0 0] 48)) 0 (.slice (some ⟨w.heap.size,0,none⟩) 1 1) (.slice none 0 0) (.slice none 0 0) (.slice none 0 0) (.slice none 0 0) (.slice none 0 0) (.slice none 0 0) (.slice none 0 0) (.slice none 0 0) (.slice none 0 0) wakeM :=
  ⟨⟨by show 1<=_;omega,.inr ⟨w.heap.size,0,1,rfl,fun i x hi=>by
   match i,hi with
   | 0,hi =>
    obtain rfl:(⟨[],[]⟩:FT)=x:=by simpa [wakeM] using hi
    exact ⟨⟨_,hx.cell 0 _ rfl,row_no⟩,⟨_,hx.cell 1 _ rfl,row_no⟩⟩
   | i+1,hi=>simp [wakeM] at hi⟩⟩,row_no,row_no,row_no,row_no,row_no,row_no,row_no,row_no,row_no⟩
 have hC:=pEncode1 C 0 _ _ _ _ _ _ _ _ _ _ wakeM _ (C.keep hb hI) hM ⟨by omega,fun x hx=>(by cases hx),⟨fun x hx=>(by cases hx),fun x hx=>(by cases hx)⟩,fun n c h=>(by injection h with _ _ h;exact h.symm),fun n c h=>(by injection h with _ _ h;exact h.symm)⟩ wake_chk wake_wr
 rw [wake_told] at hC
 have HC:=hideR hC
 have HB:=hideR hb
 clear hC hM hx hb hI
 go_enter Tryd.func6,Tryd.ntmps6
 go_wp2_with fail
 refine HC.out.mono ?_
 rintro e w1 ⟨rfl,hb1⟩
 have HB1:=hideR (HB.out.trans (hb1.mono HB.out.size))
 clear hb1 HB HC
 go_wp2
 go_ret
 exact ⟨rfl,HB1.out⟩
end Go.Proofs.YtlcpagiljfpbpaaDoor

namespace Go.Proofs.YtlcpagiljfpbpaaDoor
open Go.RowKit Rep Enc Go.Lib
set_option linter.unusedVariables false
namespace Enc
def NR1 {α:Type} (rec:α->Prop) (x:Ins α):Prop:=(-9223372036854775808<=x.n/\x.n<=9223372036854775807)/\rec x.body/\rec x.els
def NR:(d:Nat)->IL d->Prop
 | 0,_=>True
 | d+1,l=>∀x,x ∈ (show List (Ins (IL d)) from l)->NR1 (NR d) x
theorem goL_all {α:Type} {step:Unit->Ins α->Option Unit} {sub:α->Unit->Option Unit}:∀(l:List (Ins α)),goL step sub l ()=some ()->∀x ∈ l,step () x=some ()/\sub x.body ()=some ()/\sub x.els ()=some ()
 | [],_,x,hx=>by cases hx
 | y :: r,h,x,hx=>by
  have h':((step () y).bind fun s1=>(sub y.body s1).bind fun s2=>(sub y.els s2).bind fun s3=>goL step sub r s3)=some ():=h
  obtain ⟨s1,e1,h1⟩:=Option.bind_eq_some_iff.1 h'
  obtain ⟨s2,e2,h2⟩:=Option.bind_eq_some_iff.1 h1
  obtain ⟨s3,e3,h3⟩:=Option.bind_eq_some_iff.1 h2
  rcases List.mem_cons.1 hx with rfl|hx
  ·exact ⟨e1,e2,e3⟩
  ·exact goL_all r h3 x hx
theorem idx_iff {n:Int} (h:idx n=true):0<=n/\n<=4294967295:=of_decide_eq_true h
theorem rg1_of {α:Type} {rec:α->Prop} {x:Ins α} {nb ne:Nat} (hok:okF (form x.op) x.op x.a x.b x.n x.labels nb ne=true) (hf:x.labels.length<=4096) (hn:-9223372036854775808<=x.n/\x.n<=9223372036854775807) (hb:rec x.body) (he:rec x.els):Rg1 rec x:=by
 unfold okF at hok
 refine ⟨fun h4 h8=>?_,fun h8=>?_,fun _=>hn,fun h5=>?_,by omega,hb,he⟩
 ·rw [if_neg (by omega),if_neg (by omega),if_neg (by omega)] at hok
  by_cases h:form x.op=4\/form x.op=6\/form x.op=7
  ·rw [if_pos h,Bool.and_eq_true] at hok;exact idx_iff hok.1
  ·rw [if_neg h] at hok
   by_cases h5:form x.op=5
   ·rw [if_pos h5,Bool.and_eq_true,Bool.and_eq_true] at hok;exact idx_iff hok.1.1
   ·rw [if_neg h5,if_pos (by omega),Bool.and_eq_true,Bool.and_eq_true] at hok;exact idx_iff hok.1.1
 ·rw [if_neg (by omega),if_neg (by omega),if_neg (by omega),if_neg (by omega),if_neg (by omega),if_pos h8,Bool.and_eq_true,Bool.and_eq_true] at hok
  exact idx_iff hok.1.2
 ·rw [if_neg (by omega),if_neg (by omega),if_neg (by omega),if_neg (by omega),if_pos h5,Bool.and_eq_true,Bool.and_eq_true] at hok
  intro y hy
  exact idx_iff (List.all_eq_true.1 hok.1.2 y hy)
theorem rg_of:∀(d:Nat) (l:IL d) (k:Nat),goI stepForm d l k ()=some ()->goI stepLabels d l k ()=some ()->NR d l->Rg d l
 | 0,_,_,_,_,_=>trivial
 | d+1,l,k,hF,hL,hN=>by
  intro x hx
  obtain ⟨f1,f2,f3⟩:=goL_all (show List (Ins (IL d)) from l) hF x hx
  obtain ⟨g1,g2,g3⟩:=goL_all (show List (Ins (IL d)) from l) hL x hx
  obtain ⟨n1,n2,n3⟩:=hN x hx
  have hok:okS (sn x)=true:=by
   unfold stepForm at f1
   by_cases h:okS (sn x)=true
   ·exact h
   ·rw [if_neg h] at f1;cases f1
  have hfw:x.labels.length<=4096:=by
   unfold stepLabels at g1
   by_cases h:few (sn x).labels.length=true
   ·have:=of_decide_eq_true (p:=(((sn x).labels.length:Int)<=4096)) h
    have e:(sn x).labels=x.labels:=rfl
    rw [e] at this;omega
   ·rw [if_neg h] at g1;cases g1
  exact rg1_of hok hfw n1 (rg_of d x.body (k+1) f2 g2 n2) (rg_of d x.els (k+1) f3 g3 n3)
def totL {α:Type} (f:α->Nat):List (Ins α)->Nat
 | []=>0
 | x :: r=>1+f x.body+f x.els+totL f r
def tot:(d:Nat)->IL d->Nat
 | 0,_=>0
 | d+1,l=>totL (tot d) l
theorem goL_tot {α:Type} {f:α->Nat} {step:Nat->Ins α->Option Nat} {sub:α->Nat->Option Nat} (hstep:∀c x c',step c x=some c'->c'=c+1) (hsub:∀y c c',sub y c=some c'->c'=c+f y):∀(l:List (Ins α)) (c c':Nat),goL step sub l c=some c'->c'=c+totL f l
 | [],c,c',h=>by injection h with h;rw [<- h];rfl
 | y :: r,c,c',h=>by
  have h':((step c y).bind fun s1=>(sub y.body s1).bind fun s2=>(sub y.els s2).bind fun s3=>goL step sub r s3)=some c':=h
  obtain ⟨s1,e1,h1⟩:=Option.bind_eq_some_iff.1 h'
  obtain ⟨s2,e2,h2⟩:=Option.bind_eq_some_iff.1 h1
  obtain ⟨s3,e3,h3⟩:=Option.bind_eq_some_iff.1 h2
  have a1:=hstep _ _ _ e1
  have a2:=hsub _ _ _ e2
  have a3:=hsub _ _ _ e3
  have a4:=goL_tot hstep hsub r s3 c' h3
  show c'=c+(1+f y.body+f y.els+totL f r)
  omega
theorem goI_tot:∀(d:Nat) (l:IL d) (k c c':Nat),goI stepCount d l k c=some c'->c'=c+tot d l
 | 0,_,_,c,c',h=>by injection h with h;rw [<- h];rfl
 | d+1,l,k,c,c',h=>goL_tot (f:=tot d) (fun c x c' h=>by
   unfold stepCount at h
   split at h
   ·injection h with h;exact h.symm
   ·cases h) (fun y c c' h=>goI_tot d y (k+1) c c' h) (show List (Ins (IL d)) from l) c c' h
theorem goI_count_le:∀(d:Nat) (l:IL d) (k c c':Nat),c<=65536->goI stepCount d l k c=some c'->c'<=65536
 | 0,_,_,c,c',hc,h=>by injection h with h;omega
 | d+1,l,k,c,c',hc,h=>by
  have key:∀(l:List (Ins (IL d))) (c c':Nat),c<=65536->goL (fun s x=>stepCount s (sn x) k) (fun y s=>goI stepCount d y (k+1) s) l c=some c'->c'<=65536:=by
   intro l
   induction l with
   | nil=>intro c c' hc h;injection h with h;omega
   | cons y r ih =>
    intro c c' hc h
    have h':((stepCount c (sn y) k).bind fun s1=>(goI stepCount d y.body (k+1) s1).bind fun s2=>(goI stepCount d y.els (k+1) s2).bind fun s3=>goL (fun s x=>stepCount s (sn x) k) (fun y s=>goI stepCount d y (k+1) s) r s3)=some c':=h
    obtain ⟨s1,e1,h1⟩:=Option.bind_eq_some_iff.1 h'
    obtain ⟨s2,e2,h2⟩:=Option.bind_eq_some_iff.1 h1
    obtain ⟨s3,e3,h3⟩:=Option.bind_eq_some_iff.1 h2
    have b1:s1<=65536:=by
     unfold stepCount at e1
     split at e1
     ·injection e1 with e1;omega
     ·cases e1
    exact ih s3 c' (goI_count_le d _ _ _ _ (goI_count_le d _ _ _ _ b1 e2) e3) h3
  exact key (show List (Ins (IL d)) from l) c c' hc h
theorem insB_len {α:Type} {rec:α->List Int} {sz:α->Nat} {P:α->Prop} {x:Ins α} (r:Rg1 P x):(insB rec sz x).length<=100000100+(rec x.body).length+(rec x.els).length:=by
 unfold insB
 have ha:4<=form x.op->form x.op<=8->(Leb.uB x.a).length<=10:=fun h1 h2=>Leb.uB_ten (r.a h1 h2).1 (by have:=(r.a h1 h2).2;omega)
 have hb:form x.op=8->(Leb.uB x.b).length<=10:=fun h=>Leb.uB_ten (r.b h).1 (by have:=(r.b h).2;omega)
 have hn:form x.op=9->(Leb.sB x.n).length<=10:=fun h=>Leb.sB_ten (r.n h).1 (r.n h).2
 have hi:form x.op=5->(idxB x.labels).length<=100000010:=fun h=>by
  have h1:=Leb.uB_ten (n:=(x.labels.length:Int)) (by omega) (by have:=r.few;omega)
  have h2:=flat_le (f:=Leb.uB) 10 x.labels fun y hy=>Leb.uB_ten (r.labels h y hy).1 (by have:=(r.labels h y hy).2;omega)
  have h3:=r.few
  unfold idxB
  rw [List.length_append];omega
 rw [List.length_append]
 simp only [List.length_cons,List.length_nil]
 split
 ·split<;>simp<;>omega
 ·split
  ·simp only [List.length_append,List.length_cons,List.length_nil]
   have e1:(if x.a=0 then [64] else [x.a%256]:List Int).length=1:=by split<;>rfl
   have e2:(if 0<sz x.els then 5 :: ([]++rec x.els) else []:List Int).length<=1+(rec x.els).length:=by split<;>simp<;>omega
   have e3:(if 0<sz x.els then [5]++rec x.els else []:List Int).length<=1+(rec x.els).length:=by split<;>simp<;>omega
   omega
  ·split
   ·have:=ha (by omega) (by omega);omega
   ·split
    ·rw [List.length_append];have:=ha (by omega) (by omega);have:=hi (by omega);omega
    ·split
     ·rw [List.length_append];have:=ha (by omega) (by omega);simp only [List.length_cons,List.length_nil];omega
     ·split
      ·rw [List.length_append];have:=ha (by omega) (by omega);have:=hb (by omega);omega
      ·split
       ·have:=hn (by omega);omega
       ·simp;omega
theorem bytesI_len:∀(d:Nat) (l:IL d),Rg d l->(bytesI d l).length<=tot d l*100000100
 | 0,_,_=>by show 0<=_;omega
 | d+1,l,hR=>by
  have key:∀(l:List (Ins (IL d))),(∀x ∈ l,Rg1 (Rg d) x)->(insL (bytesI d) (size d) l).length<=totL (tot d) l*100000100:=by
   intro l
   induction l with
   | nil=>intro _;show 0<=_;omega
   | cons y r ih =>
    intro h
    have h1:=ih fun x hx=>h x (List.mem_cons_of_mem _ hx)
    have r:=h y (List.mem_cons_self ..)
    have h2:=insB_len (rec:=bytesI d) (sz:=size d) r
    have h3:=bytesI_len d y.body r.body
    have h4:=bytesI_len d y.els r.els
    show (insB (bytesI d) (size d) y++insL (bytesI d) (size d) _).length<=(1+tot d y.body+tot d y.els+totL (tot d) _)*100000100
    rw [List.length_append]
    omega
  exact key (show List (Ins (IL d)) from l) hR
theorem chk_zero {d:Nat} {m:Mod d} (h:chk m=0):fewM m=true/\(∃c,goF stepCount d m.funcs 0=some c)/\goF stepLabels d m.funcs ()=some ()/\shM m=true/\goF stepForm d m.funcs ()=some ():=by
 unfold chk at h
 split at h
 ·rename_i h0
  split at h
  ·cases h
  ·rename_i c hc
   split at h
   ·cases h
   ·rename_i u1 h1
    split at h
    ·cases h
    ·split at h
     ·rename_i h3
      split at h
      ·cases h
      ·rename_i u2 h4
       exact ⟨h0,⟨c,hc⟩,h1,h3,h4⟩
     ·cases h
 ·cases h
end Enc
end Go.Proofs.YtlcpagiljfpbpaaDoor

