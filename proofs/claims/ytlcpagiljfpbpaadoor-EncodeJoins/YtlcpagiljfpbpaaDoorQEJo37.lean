/- Texts that the claim needs. -/
import Derived.Test.YtlcpagiljfpbpaaDoorQEJo34
import Derived.Test.YtlcpagiljfpbpaaDoorQEJo35
import Derived.Test.YtlcpagiljfpbpaaDoorQEJo36
import Derived.Test.YtlcpagiljfpbpaaDoorQEJo31
import Derived.Test.YtlcpagiljfpbpaaDoorQEJo32
import Derived.Test.YtlcpagiljfpbpaaDoorQEJo30
import Derived.Lib.SlBytesConst
import Derived.Laws.EntriesVeiled
namespace Go.Proofs.YtlcpagiljfpbpaaDoor
open Go.RowKit Rep
set_option linter.unusedVariables false
theorem pForm {I:World->Prop} (C:ReckC I) (op:Int) (w:World) (hI:I w):Calls Tryd.prog 58 #[.int .i64 op] w fun e w'=>e=.returned (.int .i64 (form op))/\Below w.heap.size w w':=by
 by_cases c0:op<=-1
 ·have e:form op=0:=by
   unfold form
   repeat first|rw [if_neg (by omega)]|rw [if_pos (by omega)]
  rw [e]
  exact pForm0 C op w (by omega) hI
 by_cases c1:op<=0
 ·have e:form op=1:=by
   unfold form
   repeat first|rw [if_neg (by omega)]|rw [if_pos (by omega)]
  rw [e]
  exact pForm1 C op w (by omega) hI
 by_cases c2:op<=1
 ·have e:form op=1:=by
   unfold form
   repeat first|rw [if_neg (by omega)]|rw [if_pos (by omega)]
  rw [e]
  exact pForm2 C op w (by omega) hI
 by_cases c3:op<=2
 ·have e:form op=2:=by
   unfold form
   repeat first|rw [if_neg (by omega)]|rw [if_pos (by omega)]
  rw [e]
  exact pForm3 C op w (by omega) hI
 by_cases c4:op<=3
 ·have e:form op=2:=by
   unfold form
   repeat first|rw [if_neg (by omega)]|rw [if_pos (by omega)]
  rw [e]
  exact pForm4 C op w (by omega) hI
 by_cases c5:op<=4
 ·have e:form op=3:=by
   unfold form
   repeat first|rw [if_neg (by omega)]|rw [if_pos (by omega)]
  rw [e]
  exact pForm5 C op w (by omega) hI
 by_cases c6:op<=11
 ·have e:form op=0:=by
   unfold form
   repeat first|rw [if_neg (by omega)]|rw [if_pos (by omega)]
  rw [e]
  exact pForm6 C op w (by omega) hI
 by_cases c7:op<=12
 ·have e:form op=4:=by
   unfold form
   repeat first|rw [if_neg (by omega)]|rw [if_pos (by omega)]
  rw [e]
  exact pForm7 C op w (by omega) hI
 by_cases c8:op<=13
 ·have e:form op=4:=by
   unfold form
   repeat first|rw [if_neg (by omega)]|rw [if_pos (by omega)]
  rw [e]
  exact pForm8 C op w (by omega) hI
 by_cases c9:op<=14
 ·have e:form op=5:=by
   unfold form
   repeat first|rw [if_neg (by omega)]|rw [if_pos (by omega)]
  rw [e]
  exact pForm9 C op w (by omega) hI
 by_cases c10:op<=15
 ·have e:form op=1:=by
   unfold form
   repeat first|rw [if_neg (by omega)]|rw [if_pos (by omega)]
  rw [e]
  exact pForm10 C op w (by omega) hI
 by_cases c11:op<=16
 ·have e:form op=6:=by
   unfold form
   repeat first|rw [if_neg (by omega)]|rw [if_pos (by omega)]
  rw [e]
  exact pForm11 C op w (by omega) hI
 by_cases c12:op<=17
 ·have e:form op=7:=by
   unfold form
   repeat first|rw [if_neg (by omega)]|rw [if_pos (by omega)]
  rw [e]
  exact pForm12 C op w (by omega) hI
 by_cases c13:op<=25
 ·have e:form op=0:=by
   unfold form
   repeat first|rw [if_neg (by omega)]|rw [if_pos (by omega)]
  rw [e]
  exact pForm13 C op w (by omega) hI
 by_cases c14:op<=26
 ·have e:form op=1:=by
   unfold form
   repeat first|rw [if_neg (by omega)]|rw [if_pos (by omega)]
  rw [e]
  exact pForm14 C op w (by omega) hI
 by_cases c15:op<=27
 ·have e:form op=1:=by
   unfold form
   repeat first|rw [if_neg (by omega)]|rw [if_pos (by omega)]
  rw [e]
  exact pForm15 C op w (by omega) hI
 by_cases c16:op<=31
 ·have e:form op=0:=by
   unfold form
   repeat first|rw [if_neg (by omega)]|rw [if_pos (by omega)]
  rw [e]
  exact pForm16 C op w (by omega) hI
 by_cases c17:op<=36
 ·have e:form op=6:=by
   unfold form
   repeat first|rw [if_neg (by omega)]|rw [if_pos (by omega)]
  rw [e]
  exact pForm17 C op w (by omega) hI
 by_cases c18:op<=39
 ·have e:form op=0:=by
   unfold form
   repeat first|rw [if_neg (by omega)]|rw [if_pos (by omega)]
  rw [e]
  exact pForm18 C op w (by omega) hI
 by_cases c19:op<=40
 ·have e:form op=8:=by
   unfold form
   repeat first|rw [if_neg (by omega)]|rw [if_pos (by omega)]
  rw [e]
  exact pForm19 C op w (by omega) hI
 by_cases c20:op<=41
 ·have e:form op=8:=by
   unfold form
   repeat first|rw [if_neg (by omega)]|rw [if_pos (by omega)]
  rw [e]
  exact pForm20 C op w (by omega) hI
 by_cases c21:op<=42
 ·have e:form op=10:=by
   unfold form
   repeat first|rw [if_neg (by omega)]|rw [if_pos (by omega)]
  rw [e]
  exact pForm21 C op w (by omega) hI
 by_cases c22:op<=43
 ·have e:form op=10:=by
   unfold form
   repeat first|rw [if_neg (by omega)]|rw [if_pos (by omega)]
  rw [e]
  exact pForm22 C op w (by omega) hI
 by_cases c23:op<=55
 ·have e:form op=8:=by
   unfold form
   repeat first|rw [if_neg (by omega)]|rw [if_pos (by omega)]
  rw [e]
  exact pForm23 C op w (by omega) hI
 by_cases c24:op<=56
 ·have e:form op=10:=by
   unfold form
   repeat first|rw [if_neg (by omega)]|rw [if_pos (by omega)]
  rw [e]
  exact pForm24 C op w (by omega) hI
 by_cases c25:op<=57
 ·have e:form op=10:=by
   unfold form
   repeat first|rw [if_neg (by omega)]|rw [if_pos (by omega)]
  rw [e]
  exact pForm25 C op w (by omega) hI
 by_cases c26:op<=62
 ·have e:form op=8:=by
   unfold form
   repeat first|rw [if_neg (by omega)]|rw [if_pos (by omega)]
  rw [e]
  exact pForm26 C op w (by omega) hI
 by_cases c27:op<=63
 ·have e:form op=1:=by
   unfold form
   repeat first|rw [if_neg (by omega)]|rw [if_pos (by omega)]
  rw [e]
  exact pForm27 C op w (by omega) hI
 by_cases c28:op<=64
 ·have e:form op=1:=by
   unfold form
   repeat first|rw [if_neg (by omega)]|rw [if_pos (by omega)]
  rw [e]
  exact pForm28 C op w (by omega) hI
 by_cases c29:op<=65
 ·have e:form op=9:=by
   unfold form
   repeat first|rw [if_neg (by omega)]|rw [if_pos (by omega)]
  rw [e]
  exact pForm29 C op w (by omega) hI
 by_cases c30:op<=66
 ·have e:form op=9:=by
   unfold form
   repeat first|rw [if_neg (by omega)]|rw [if_pos (by omega)]
  rw [e]
  exact pForm30 C op w (by omega) hI
 by_cases c31:op<=67
 ·have e:form op=10:=by
   unfold form
   repeat first|rw [if_neg (by omega)]|rw [if_pos (by omega)]
  rw [e]
  exact pForm31 C op w (by omega) hI
 by_cases c32:op<=68
 ·have e:form op=10:=by
   unfold form
   repeat first|rw [if_neg (by omega)]|rw [if_pos (by omega)]
  rw [e]
  exact pForm32 C op w (by omega) hI
 by_cases c33:op<=90
 ·have e:form op=1:=by
   unfold form
   repeat first|rw [if_neg (by omega)]|rw [if_pos (by omega)]
  rw [e]
  exact pForm33 C op w (by omega) hI
 by_cases c34:op<=102
 ·have e:form op=10:=by
   unfold form
   repeat first|rw [if_neg (by omega)]|rw [if_pos (by omega)]
  rw [e]
  exact pForm34 C op w (by omega) hI
 by_cases c35:op<=138
 ·have e:form op=1:=by
   unfold form
   repeat first|rw [if_neg (by omega)]|rw [if_pos (by omega)]
  rw [e]
  exact pForm35 C op w (by omega) hI
 by_cases c36:op<=166
 ·have e:form op=10:=by
   unfold form
   repeat first|rw [if_neg (by omega)]|rw [if_pos (by omega)]
  rw [e]
  exact pForm36 C op w (by omega) hI
 by_cases c37:op<=167
 ·have e:form op=1:=by
   unfold form
   repeat first|rw [if_neg (by omega)]|rw [if_pos (by omega)]
  rw [e]
  exact pForm37 C op w (by omega) hI
 by_cases c38:op<=171
 ·have e:form op=10:=by
   unfold form
   repeat first|rw [if_neg (by omega)]|rw [if_pos (by omega)]
  rw [e]
  exact pForm38 C op w (by omega) hI
 by_cases c39:op<=173
 ·have e:form op=1:=by
   unfold form
   repeat first|rw [if_neg (by omega)]|rw [if_pos (by omega)]
  rw [e]
  exact pForm39 C op w (by omega) hI
 by_cases c40:op<=191
 ·have e:form op=10:=by
   unfold form
   repeat first|rw [if_neg (by omega)]|rw [if_pos (by omega)]
  rw [e]
  exact pForm40 C op w (by omega) hI
 have e:form op=0:=by
  unfold form
  repeat rw [if_neg (by omega)]
 rw [e]
 exact pForm41 C op w (by omega) hI
theorem formC {I:World->Prop} (C:ReckC I):FormC I:=⟨C.keep,fun op w h=>pForm C op w h⟩
end Go.Proofs.YtlcpagiljfpbpaaDoor

namespace Go.Proofs.YtlcpagiljfpbpaaDoor
open Go.RowKit Rep
set_option linter.unusedVariables false
namespace Rep
structure ModOk {d:Nat} (v3 v4:Value) (m:Mod d):Prop where
 deep:d<=4611686018427387904
 datas:∀x ∈ m.datas,x.bytes.size<=9223372036854775807
 texts:Texts m
 tables:∀n c,v3=.slice none n c->c=0
 mems:∀n c,v4=.slice none n c->c=0
theorem fewM_lens {d:Nat} {m:Mod d} (h:fewM m=true):m.tables.length<=4096/\m.mems.length<=4096:=by
 unfold fewM at h
 rw [Bool.and_eq_true] at h
 have h1:=List.all_eq_true.1 h.1
 have a:=h1 (len m.tables) (by simp)
 have b:=h1 (len m.mems) (by simp)
 have a:=of_decide_eq_true (p:=((m.tables.length:Int)<=4096)) a
 have b:=of_decide_eq_true (p:=((m.mems.length:Int)<=4096)) b
 omega
end Rep
theorem pCheckC {I:World->Prop} (C:WastC I) (d:Nat) (v0 v1 v2 v3 v4 v5 v6 v7 v8 v9:Value) (m:Mod d) (w:World) (hI:I w) (hM:ModAt w d v0 v1 v2 v3 v4 v5 v6 v7 v8 v9 m) (hO:ModOk v3 v4 m) :
  Calls Tryd.prog 13 #[.agg #[v0,v1,v2,v3,v4,v5,v6,v7,v8,v9]] w fun e w'=>e=.returned (.int .i64 (chk m))/\Below w.heap.size w w':=by
 refine pCheck C.toFormC d hO.deep v0 v1 v2 v3 v4 v5 v6 v7 v8 v9 m w hI hM hO.datas fun hf w' hb=>?_
 have hl:=fewM_lens hf
 have hM':=hM.on hb
 obtain ⟨o3,c3,e3⟩:=Row.len hM'.tables
 obtain ⟨o4,c4,e4⟩:=Row.len hM'.mems
 refine pneedShapes C d v0 v1 v2 v3 v4 v5 v6 v7 v8 v9 m w' (C.keep hb hI) hM' hO.texts fun u b hu k0 k1=>?_
 have hM2:=hM'.on hu
 have r3:=hM2.tables
 have r4:=hM2.mems
 rw [e3] at r3 k0
 rw [e4] at r4 k1
 refine pConcat m.tables m.mems o3 o4 c3 c4 u b r3 r4 (fun h=>?_) (fun h=>?_) k0 k1 hl.1 hl.2
 ·subst h;exact hO.tables _ _ e3
 ·subst h;exact hO.mems _ _ e4
theorem wastC {I:World->Prop} (C:ReckC I) (hU:∀w,I w->UtfI w):WastC I :=
 { toFormC:=formC C,name:=fun s w h hs=>pName s w hs (hU w h) }
theorem utfI_on {w w':World} (hb:Below w.heap.size w w') (h:UtfI w):UtfI w':=Utf8Tabs_below h hb
end Go.Proofs.YtlcpagiljfpbpaaDoor

namespace Go.Proofs.YtlcpagiljfpbpaaDoor
open Go.RowKit Rep Enc Go.Lib
set_option linter.unusedVariables false
namespace Enc
def toldS (bs:List Int):ByteArray:=if 262144<bs.length then ⟨#[]⟩ else strOfNums bs
def toldE (bs:List Int):Int:=if 262144<bs.length then 2 else 0
theorem told_eq (bs:List Int):told bs=.tuple #[.string (toldS bs),.int .i64 (toldE bs)]:=by
 unfold told toldS toldE;split<;>rfl
theorem told_adds {a x b:List Int} (h:Adds a x b):told b=told (a++x):=by
 rcases h with rfl|⟨h1,h2,_⟩
 ·rfl
 ·unfold told;rw [if_pos h1,if_pos (by rw [List.length_append];exact h2)]
def WX (w0:World) (p:Nat) (c:Nat->Value) (v:Value) (b:List Int) (w:World):Prop:=WS w0 p c v b w\/(b=headB/\WN w0 p c v w)
section
variable {w0 w w':World} {p:Nat} {c:Nat->Value} {v:Value} {b:List Int}
theorem WX.on (h:WX w0 p c v b w) (hb:Below w.heap.size w w'):WX w0 p c v b w':=h.imp (fun h=>h.on hb) fun h=>⟨h.1,h.2.on hb⟩
theorem WX.lt (h:WX w0 p c v b w):p<w.heap.size:=by
 rcases h with h|⟨_,h⟩
 ·exact h.lt
 ·exact h.lt
theorem WX.own (h:WX w0 p c v b w):∀k,v.ownBlock=some k->k<w.heap.size:=by
 rcases h with h|⟨_,h⟩
 ·exact fun k hk=>(h.own.lt k hk).2
 ·obtain ⟨g,rfl,_,_,hg⟩:=h.row
  intro k hk
  have:g=k:=by simpa [Value.ownBlock] using hk
  subst this
  exact (Array.getElem?_eq_some_iff.1 hg).1
theorem WX.below (h:WX w0 p c v b w):Below w0.heap.size w0 w:=by
 rcases h with h|⟨_,h⟩
 ·exact h.below
 ·exact h.below
theorem WX.put (h:WX w0 p c v b w) (hn:b.length<=100000000000000):PutC w0 p c v b w:=by
 rcases h with h|⟨rfl,h⟩
 ·exact PutC.of h hn
 ·exact fun b w' hb=>wPutN w0 p c v b w' (h.on hb)
theorem WX.told (h:WX w0 p c v b w) (hn:b.length<=100000000000000) (h0:0<b.length):Calls Tryd.prog 16 #[.pointer (some ⟨p,0,none⟩)] w fun e w'=>e=.returned (told b)/\w'=w:=by
 rcases h with h|⟨rfl,h⟩
 ·exact wTold w0 p c v b w h hn h0
 ·exact wToldN w0 p c v w h
end
theorem wSec (w0:World) (p:Nat) (c:Nat->Value) (id:Int) (n:Nat) (F:FuncId) (f:Nat->List Int) (v:Value) (b:List Int) (w:World) (h:WX w0 p c v b w) (hS:SecIn w0 p c id n F f) (hid:0<=id/\id<=255) (hlen:b.length+(secB id n (insideB id n f)).length<=38800000000000) :
  Calls Tryd.prog 15 #[.pointer (some ⟨p,0,none⟩),.agg #[.int .i64 id,.int .i64 (n:Nat),.func (.func F) #[.pointer (some ⟨p,0,none⟩)] #[]]] w fun e w'=>∃v' b',e=.returned (.tuple #[])/\WX w0 p c v' b' w'/\Kept p v w v' w'/\So b (secB id n (insideB id n f)) b':=by
 rcases Nat.eq_zero_or_pos n with rfl|hn
 ·refine (wSection0 p id F w).mono ?_
  rintro e w' ⟨rfl,hb⟩
  exact ⟨v,b,rfl,h.on hb,Kept.below hb,by unfold secB;rw [if_pos rfl];exact So.refl b⟩
 ·have hs:secB id n (insideB id n f) = [id]++sizB (insideB id n f):=by unfold secB;rw [if_neg (by omega)]
  rw [hs] at hlen ⊢
  refine (wSection w0 p c id n F f v b w (h.put (by omega)) h.lt h.own hS hn hid (by unfold sizB at hlen;simp only [List.length_append] at hlen;omega)).mono ?_
  rintro e w' ⟨v',b',rfl,h1,h2,h3,h4⟩
  exact ⟨v',b',rfl,.inl h1,h2,h3,h4⟩
end Enc
set_option maxRecDepth 100000 in
set_option maxHeartbeats 4000000 in
theorem pEncode0 {I:World->Prop} (C:WastC I) (d:Nat) (v0 v1 v2 v3 v4 v5 v6 v7 v8 v9:Value) (m:Mod d) (w:World) (hI:I w) (hM:ModAt w d v0 v1 v2 v3 v4 v5 v6 v7 v8 v9 m) (hO:ModOk v3 v4 m) (h0:chk m≠0) :
  Calls Tryd.prog 7 #[.agg #[v0,v1,v2,v3,v4,v5,v6,v7,v8,v9]] w fun e w'=>e=.returned (.tuple #[.string ⟨#[]⟩,.int .i64 (chk m)])/\Below w.heap.size w w':=by
 have hb:=new_on' w (.cells #[v0,v1,v2,v3,v4,v5,v6,v7,v8,v9] 32)
 have HB:=hideR hb
 obtain ⟨o0,k0,rfl⟩:=Row.len hM.types
 obtain ⟨o1,k1,rfl⟩:=Row.len hM.imports
 obtain ⟨o2,k2,rfl⟩:=Row.len hM.funcs
 obtain ⟨o3,k3,rfl⟩:=Row.len hM.tables
 obtain ⟨o4,k4,rfl⟩:=Row.len hM.mems
 obtain ⟨o5,k5,rfl⟩:=Row.len hM.globals
 obtain ⟨o6,k6,rfl⟩:=Row.len hM.exports
 obtain ⟨o7,k7,rfl⟩:=Row.len hM.start
 obtain ⟨o8,k8,rfl⟩:=Row.len hM.elems
 obtain ⟨o9,k9,rfl⟩:=Row.len hM.datas
 have HC:=hideR (pCheckC C d _ _ _ _ _ _ _ _ _ _ m _ (C.keep hb hI) (hM.on hb) hO)
 clear hM hO hI hb
 generalize m.types.length=n0 at *
 generalize m.imports.length=n1 at *
 generalize m.funcs.length=n2 at *
 generalize m.tables.length=n3 at *
 generalize m.mems.length=n4 at *
 generalize m.globals.length=n5 at *
 generalize m.exports.length=n6 at *
 generalize m.start.length=n7 at *
 generalize m.elems.length=n8 at *
 generalize m.datas.length=n9 at *
 generalize chk m=r at *
 go_enter Tryd.func7,Tryd.ntmps7
 go_wp2_with fail
 refine HC.out.mono ?_
 rintro e w1 ⟨rfl,hb1⟩
 have HB1:=hideR (HB.out.trans (hb1.mono HB.out.size))
 clear hb1 HB HC
 go_wp2
 go_ret2
 exact ⟨rfl,HB1.out⟩
set_option maxRecDepth 100000 in
set_option maxHeartbeats 4000000 in
theorem pEncode1 {I:World->Prop} (C:WastC I) (d:Nat) (v0 v1 v2 v3 v4 v5 v6 v7 v8 v9:Value) (m:Mod d) (w:World) (hI:I w) (hM:ModAt w d v0 v1 v2 v3 v4 v5 v6 v7 v8 v9 m) (hO:ModOk v3 v4 m) (h0:chk m=0) (W:Wr m) :
  Calls Tryd.prog 7 #[.agg #[v0,v1,v2,v3,v4,v5,v6,v7,v8,v9]] w fun e w'=>e=.returned (told (modB m))/\Below w.heap.size w w':=by
 have hkc:=fun (w:World) (C:Array Value) (n c:Nat)=>Lib.run_convert_bytes_const (P:=Tryd.prog) w 59 5 C n c Tryd.underlying59 Tryd.underlying5
 have hb:=new_on' w (.cells #[v0,v1,v2,v3,v4,v5,v6,v7,v8,v9] 32)
 have hC0:Calls Tryd.prog 13 #[.agg #[v0,v1,v2,v3,v4,v5,v6,v7,v8,v9]] (w.alloc (.cells #[v0,v1,v2,v3,v4,v5,v6,v7,v8,v9] 32)) fun e w'=>e=.returned (.int .i64 0)/\Below (w.alloc (.cells #[v0,v1,v2,v3,v4,v5,v6,v7,v8,v9] 32)).heap.size (w.alloc (.cells #[v0,v1,v2,v3,v4,v5,v6,v7,v8,v9] 32)) w':=by
  have:=pCheckC C d _ _ _ _ _ _ _ _ _ _ m _ (C.keep hb hI) (hM.on hb) hO
  rw [h0] at this;exact this
 have HBX:=hideR (Bx.new (w:=w) (b:=w.heap.size) (t:=32) (cs:=#[v0,v1,v2,v3,v4,v5,v6,v7,v8,v9]) rfl)
 obtain ⟨c,hc⟩:∃c:Nat->Value,c=fun i=>(#[v0,v1,v2,v3,v4,v5,v6,v7,v8,v9]).getD i undef:=⟨_,rfl⟩
 have HSEC:Hid (∀(p j:Nat),j<11->∃(id:Int) (n:Nat) (F:FuncId) (f:Nat->List Int),(secCells p (ln m))[j*3]?=some (.int .i64 id)/\(secCells p (ln m))[j*3+1]?=some (.int .i64 (n:Nat))/\(secCells p (ln m))[j*3+2]?=some (.func (.func F) #[.pointer (some ⟨p,0,none⟩)] #[])/\(0<=id/\id<=255)/\SecIn w p c id n F f/\sb m j=secB id n (insideB id n f)) :=
  hideR fun p j hj=>secs_ok C.toFormC w hI p c d m (by rw [hc];exact hM) W j hj
 have HWN:Hid (∀w1:World,Below w.heap.size w w1->WN w (w1.heap.size+1) c (.slice (some ⟨w1.heap.size,0,none⟩) 8 8) ((w1.alloc (.cells #[.int .u8 0,.int .u8 97,.int .u8 115,.int .u8 109,.int .u8 1,.int .u8 0,.int .u8 0,.int .u8 0] 5 (8,9))).alloc (.cells #[v0,v1,v2,v3,v4,v5,v6,v7,v8,v9,.slice (some ⟨w1.heap.size,0,none⟩) 8 8] 61))):=hideR fun w1 hb1 =>
  ⟨hb1.trans ((((Below.refl _ w1).alloc (Nat.le_refl _) _).alloc (by simp) _).mono hb1.size),by have:=hb1.size;omega,by rw [hc];exact heap_new1 _ _ _,w1.heap.size,rfl,hb1.size,by omega,by
   have h1:=new_on' (w1.alloc (.cells #[.int .u8 0,.int .u8 97,.int .u8 115,.int .u8 109,.int .u8 1,.int .u8 0,.int .u8 0,.int .u8 0] 5 (8,9))) (.cells #[v0,v1,v2,v3,v4,v5,v6,v7,v8,v9,.slice (some ⟨w1.heap.size,0,none⟩) 8 8] 61)
   rw [h1.block _ (by simp)]
   exact heap_new _ _⟩
 have HMB:Hid (modB m=headB++fstB (sb m) 11/\(modB m).length<=38000000000000):=hideR ⟨modB_sb m,W.short⟩
 have HB:=hideR hb
 have HC:=hideR hC0
 obtain ⟨o0,k0,rfl⟩:=Row.len hM.types
 obtain ⟨o1,k1,rfl⟩:=Row.len hM.imports
 obtain ⟨o2,k2,rfl⟩:=Row.len hM.funcs
 obtain ⟨o3,k3,rfl⟩:=Row.len hM.tables
 obtain ⟨o4,k4,rfl⟩:=Row.len hM.mems
 obtain ⟨o5,k5,rfl⟩:=Row.len hM.globals
 obtain ⟨o6,k6,rfl⟩:=Row.len hM.exports
 obtain ⟨o7,k7,rfl⟩:=Row.len hM.start
 obtain ⟨o8,k8,rfl⟩:=Row.len hM.elems
 obtain ⟨o9,k9,rfl⟩:=Row.len hM.datas
 have HCI:Hid (∀i,i<10->c i=.slice ((#[o0,o1,o2,o3,o4,o5,o6,o7,o8,o9]).getD i none) (ln m i) ((#[k0,k1,k2,k3,k4,k5,k6,k7,k8,k9]).getD i 0)):=hideR fun i hi=>by
  rw [hc]
  match i,hi with
  | 0,_=>rfl|1,_=>rfl|2,_=>rfl|3,_=>rfl|4,_=>rfl|5,_=>rfl|6,_=>rfl|7,_=>rfl|8,_=>rfl|9,_=>rfl
 clear hM hO hI hb hC0 hc W
 obtain ⟨S,E,hSE⟩:∃S E,told (modB m)=.tuple #[.string S,.int .i64 E]:=⟨_,_,told_eq _⟩
 rw [hSE]
 have HSE:=hideR hSE
 clear hSE
 generalize m.types.length=n0 at *
 generalize m.imports.length=n1 at *
 generalize m.funcs.length=n2 at *
 generalize m.tables.length=n3 at *
 generalize m.mems.length=n4 at *
 generalize m.globals.length=n5 at *
 generalize m.exports.length=n6 at *
 generalize m.start.length=n7 at *
 generalize m.elems.length=n8 at *
 generalize m.datas.length=n9 at *
 go_enter Tryd.func7,Tryd.ntmps7
 go_wp2_with fail
 refine HC.out.mono ?_
 rintro e w1 ⟨rfl,hb1⟩
 have HBX1:Hid (Bx w1 w.heap.size 32 #[.slice o0 n0 k0,.slice o1 n1 k1,.slice o2 n2 k2,.slice o3 n3 k3,.slice o4 n4 k4,.slice o5 n5 k5,.slice o6 n6 k6,.slice o7 n7 k7,.slice o8 n8 k8,.slice o9 n9 k9]):=hideR (by unfold Bx;rw [hb1.block _ HBX.out.lt];exact HBX.out)
 have HB1:=hideR (HB.out.trans (hb1.mono HB.out.size))
 clear hb1 HB HC HBX
 have q0:=HBX1.out.cell 0 _ rfl
 have q1:=HBX1.out.cell 1 _ rfl
 have q2:=HBX1.out.cell 2 _ rfl
 have q3:=HBX1.out.cell 3 _ rfl
 have q4:=HBX1.out.cell 4 _ rfl
 have q5:=HBX1.out.cell 5 _ rfl
 have q6:=HBX1.out.cell 6 _ rfl
 have q7:=HBX1.out.cell 7 _ rfl
 have q8:=HBX1.out.cell 8 _ rfl
 have q9:=HBX1.out.cell 9 _ rfl
 go_upto_region 5 with fail
 obtain ⟨w2,hw2⟩:∃w2,w2=((w1.alloc (.cells #[.int .u8 0,.int .u8 97,.int .u8 115,.int .u8 109,.int .u8 1,.int .u8 0,.int .u8 0,.int .u8 0] 5 (8,9))).alloc (.cells #[.slice o0 n0 k0,.slice o1 n1 k1,.slice o2 n2 k2,.slice o3 n3 k3,.slice o4 n4 k4,.slice o5 n5 k5,.slice o6 n6 k6,.slice o7 n7 k7,.slice o8 n8 k8,.slice o9 n9 k9,.slice (some ⟨w1.heap.size,0,none⟩) 8 8] 61)):=⟨_,rfl⟩
 have HN:=hideR (HWN.out w1 HB1.out)
 rw [<- hw2] at HN ⊢
 clear hw2 q0 q1 q2 q3 q4 q5 q6 q7 q8 q9 HBX1 HB1 HWN hkc
 have HS:=hideR (HSEC.out (w1.heap.size+1))
 clear HSEC
 generalize hp:w1.heap.size+1=p at HN HS ⊢
 generalize hg:w1.heap.size=g0 at *
 clear hp hg
 have HC:=hideR (wSections p _ _ _ w2 (fun i hi=>by rw [HN.out.fld i hi];exact congrArg some (HCI.out i hi)))
 go_wp2_with fail
 refine HC.out.mono ?_
 rintro e w3 ⟨rfl,hsc,hb3⟩
 clear HC HCI
 have HBS:Hid (Bx w3 (w2.heap.size+1) 66 (secCells p (ln m))):=hideR hsc
 have HNE:Hid (w2.heap.size+1≠p/\w2.heap.size+1≠g0):=hideR ⟨by have:=HN.out.lt;omega,by
  obtain ⟨g,h1,_,_,h4⟩:=HN.out.row
  injection h1 with h1 _ _
  injection h1 with h1
  injection h1 with h1 _ _
  have:=(Array.getElem?_eq_some_iff.1 h4).1
  omega⟩
 have HX3:Hid (WX w p c (.slice (some ⟨g0,0,none⟩) 8 8) headB w3):=hideR (.inr ⟨rfl,HN.out.on hb3⟩)
 clear hsc hb3 HN
 generalize w2.heap.size+1=gs at *
 go_wp2_with fail
 go_loopw [21] (fun i wr=>∃(j:Nat) (v:Value) (b:List Int),j<=11/\i=.int .i64 j/\Hid (WX w p c v b wr)/\Hid (Kept p (.slice (some ⟨g0,0,none⟩) 8 8) w3 v wr)/\Hid (So headB (fstB (sb m) j) b)) (fun i _=>11-(Lib.intOf i).toNat)
 case atStart=>exact ⟨0,_,_,by omega,rfl,HX3,hideR (Kept.refl _ _ _),hideR (So.refl _)⟩
 case round =>
  clear HX3
  obtain ⟨j,v,b,hj,rfl,HX,HK,HSO⟩:=hrel
  by_cases hgo:j<11
  ·obtain ⟨id,n,F,f,e0,e1,e2,hid,hSI,hsb⟩:=HS.out j hgo
   obtain ⟨bS,_⟩:=HK.out.bx HBS.out HNE.out.1 (fun e=>HNE.out.2 (by simpa [Value.ownBlock] using e))
   have z0:=bS.cell _ _ e0
   have z1:=bS.cell _ _ e1
   have z2:=bS.cell _ _ e2
   clear bS e0 e1 e2
   have hfs:=fstB_le (sb m) (j+1) 11 (by omega)
   have hfe:fstB (sb m) (j+1)=fstB (sb m) j++secB id n (insideB id n f):=by show fstB (sb m) j++sb m j=_;rw [hsb]
   rw [hfe,List.length_append] at hfs
   have HFE:=hideR hfe
   have hml:=HMB.out
   rw [hml.1,List.length_append] at hml
   have hbl:b.length+(secB id n (insideB id n f)).length<=38800000000000:=by have:=HSO.out.2;omega
   obtain ⟨u1,hu1⟩:∃u1,u1=wr.alloc (.cells #[.int .i64 id,.int .i64 (n:Nat),.func (.func F) #[.pointer (some ⟨p,0,none⟩)] #[]] 66):=⟨_,rfl⟩
   have hbu:Below wr.heap.size wr u1:=by rw [hu1];exact new_on' _ _
   have hbx:Bx u1 wr.heap.size 66 #[.int .i64 id,.int .i64 (n:Nat),.func (.func F) #[.pointer (some ⟨p,0,none⟩)] #[]]:=by rw [hu1];exact Bx.new rfl
   have y0:=hbx.cell 0 _ rfl
   have y1:=hbx.cell 1 _ rfl
   have y2:=hbx.cell 2 _ rfl
   have HCS:=hideR (wSec w p c id n F f v b u1 (HX.out.on hbu) hSI hid hbl)
   have HK1:=hideR (HK.out.trans (Kept.below (p:=p) (v:=v) hbu))
   have HU:=hideR hu1
   clear hsb hfs hfe hml hbl hu1 hbu hbx hSI hid HX HK
   go_upto_region 8 with fail
   rw [<- HU.out]
   clear HU z0 z1 z2
   generalize wr.heap.size=p3 at *
   go_wp2_with fail
   refine HCS.out.mono ?_
   rintro e w4 ⟨v4,b4,rfl,h4,k4,s4⟩
   have HX4:=hideR h4
   have HK4:=hideR (HK1.out.trans k4)
   have HSO4:Hid (So headB (fstB (sb m) (j+1)) b4):=hideR (by rw [HFE.out];exact HSO.out.adds s4.1 s4.2)
   clear h4 k4 s4 HCS HK1 y0 y1 y2
   go_wp2
   go_roundw
   case rel=>exact ⟨j+1,v4,b4,by omega,by go_num,HX4,HK4,HSO4⟩
   case measure=>simp [Lib.intOf];omega
  ·obtain rfl:j=11:=by omega
   have hlb:headB.length<=b.length:=HSO.out.1.le
   have HC:=hideR (HX.out.told (by
    have h1:=HSO.out.2
    have h2:=HMB.out
    rw [h2.1,List.length_append] at h2
    omega) (by have:headB.length=8:=rfl;omega))
   have ht:told b=.tuple #[.string S,.int .i64 E]:=by rw [told_adds HSO.out.1,<- HMB.out.1];exact HSE.out
   rw [ht] at HC
   have HBW:=hideR HX.out.below
   clear hlb ht
   go_wp2_with fail
   refine HC.out.mono ?_
   rintro e w5 ⟨rfl,rfl⟩
   go_wp2
   go_ret2
   exact ⟨rfl,HBW.out⟩
end Go.Proofs.YtlcpagiljfpbpaaDoor

