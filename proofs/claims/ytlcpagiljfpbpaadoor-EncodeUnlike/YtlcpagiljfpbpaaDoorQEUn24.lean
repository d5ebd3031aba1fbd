/- Texts that the claim needs. -/
import Derived.Test.YtlcpagiljfpbpaaDoorQEUn23
import Derived.Test.YtlcpagiljfpbpaaDoorQEUn0
namespace Go.Proofs.YtlcpagiljfpbpaaDoor
open Go.RowKit Rep Enc Go.Lib
set_option linter.unusedVariables false
namespace Enc
def Bx (w:World) (b:Nat) (t:TypeId) (cs:Array Value):Prop:=w.heap[b]?=some (.cells cs t (0,0))
theorem Bx.cell {w:World} {b:Nat} {t:TypeId} {cs:Array Value} (h:Bx w b t cs) (i:Nat) (v:Value) (hv:cs[i]?=some v):w.cell? ⟨b,i,none⟩=some v:=by
 unfold World.cell?;rw [h];exact hv
theorem Bx.lt {w:World} {b:Nat} {t:TypeId} {cs:Array Value} (h:Bx w b t cs):b<w.heap.size:=(Array.getElem?_eq_some_iff.1 h).1
theorem Bx.new {w:World} {b:Nat} {t:TypeId} {cs:Array Value} (hp:b=w.heap.size):Bx (w.alloc (.cells cs t)) b t cs:=by
 subst hp;exact heap_alloc_new w _
theorem Kept.bx {p p3:Nat} {v v':Value} {w w':World} {t:TypeId} {cs:Array Value} (h:Kept p v w v' w') (hb:Bx w p3 t cs) (hp:p3≠p) (ho:some p3≠v.ownBlock):Bx w' p3 t cs/\some p3≠v'.ownBlock :=
 ⟨by unfold Bx at *;rw [h.block p3 (Array.getElem?_eq_some_iff.1 hb).1 hp ho];exact hb,fun e=>by
  rcases h.own p3 e.symm with h1|h1
  ·exact ho h1.symm
  ·have:=hb.lt;omega⟩
def limB (x:Lim):List Int:=[one x.has]++Leb.uB x.min++(if x.has then Leb.uB x.max else [])
end Enc
set_option maxRecDepth 100000 in
set_option maxHeartbeats 2000000 in
theorem wLimT (w0:World) (p:Nat) (c:Nat->Value) (v:Value) (bs:List Int) (x:Lim) (w:World) (h:WS w0 p c v bs w) (h1:0<=x.min/\x.min<=4294967295) (h2:0<=x.max/\x.max<=4294967295) (hn:bs.length<=40000000000000):Calls Tryd.prog 63 #[.pointer (some ⟨p,0,none⟩),.agg #[.int .i64 x.min,.int .i64 x.max,.bool true]] w (Does w0 p c v w (bs++([one true]++Leb.uB x.min++Leb.uB x.max))):=by
 have hu:=Leb.uB_ten h1.1 (by omega:x.min<=18446744073709551615)
 have hpw:p<w.heap.size:=h.lt
 have hown:∀k,v.ownBlock=some k->k<w.heap.size:=fun k hk=>(h.own.lt k hk).2
 have HBK0:=hideR (Bx.new (w:=w) (b:=w.heap.size) (t:=73) (cs:=#[.int .i64 x.min,.int .i64 x.max,.bool true]) rfl)
 obtain ⟨u1,hu1⟩:∃u1,u1=w.alloc (.cells #[.int .i64 x.min,.int .i64 x.max,.bool true] 73):=⟨_,rfl⟩
 have HU:=hideR (new_on' w (.cells #[.int .i64 x.min,.int .i64 x.max,.bool true] 73))
 rw [<- hu1] at HBK0 HU
 have HS0:=hideR (h.on HU.out)
 have HO0:Hid (some w.heap.size≠v.ownBlock):=hideR (fun e=>by have:=hown _ e.symm;omega)
 have HNP:Hid (w.heap.size≠p):=hideR (by omega)
 have HK0:Hid (Kept p v w v u1):=hideR (Kept.below HU.out)
 have HU1:=hideR hu1
 clear h hpw hown HU hu1
 obtain ⟨b9,hb9⟩:∃b9,b9=bs++([one true]++Leb.uB x.min++Leb.uB x.max):=⟨_,rfl⟩
 rw [<- hb9]
 have HB9:=hideR hb9
 clear hb9
 go_enter Tryd.func63,Tryd.ntmps63
 go_upto_region 1 with fail
 rw [<- HU1.out]
 generalize hp3:w.heap.size=p3 at HBK0 HO0 HNP ⊢
 clear HU1
 have k0:=HBK0.out.cell 0 _ rfl
 have k1:=HBK0.out.cell 1 _ rfl
 have k2:=HBK0.out.cell 2 _ rfl
 have HC:=hideR (wFlag w0 p c v (bs) true u1 HS0.out (by omega))
 go_wp2_with fail
 refine HC.out.mono ?_
 rintro e w1 ⟨v1,rfl,hh,kk⟩
 obtain ⟨bb,bo⟩:=kk.bx HBK0.out HNP.out HO0.out
 have HS1:=hideR hh
 have HBK1:=hideR bb
 have HO1:=hideR bo
 have HK1:=hideR (HK0.out.trans kk)
 clear hh kk bb bo HC HS0 HBK0 HK0 HO0 k0 k1 k2
 have k0:=HBK1.out.cell 0 _ rfl
 have k1:=HBK1.out.cell 1 _ rfl
 have k2:=HBK1.out.cell 2 _ rfl
 have HC:=hideR (wU w0 p c v1 (bs++[one true]) x.min w1 HS1.out h1.1 (by omega) (by simp only [List.length_append,List.length_cons,List.length_nil];omega))
 go_wp2_with fail
 refine HC.out.mono ?_
 rintro e w2 ⟨v2,rfl,hh,kk⟩
 obtain ⟨bb,bo⟩:=kk.bx HBK1.out HNP.out HO1.out
 have HS2:=hideR hh
 have HBK2:=hideR bb
 have HO2:=hideR bo
 have HK2:=hideR (HK1.out.trans kk)
 clear hh kk bb bo HC HS1 HBK1 HK1 HO1 k0 k1 k2
 have k0:=HBK2.out.cell 0 _ rfl
 have k1:=HBK2.out.cell 1 _ rfl
 have k2:=HBK2.out.cell 2 _ rfl
 have HC:=hideR (wU w0 p c v2 (bs++[one true]++Leb.uB x.min) x.max w2 HS2.out h2.1 (by omega) (by simp only [List.length_append,List.length_cons,List.length_nil];omega))
 go_wp2_with fail
 refine HC.out.mono ?_
 rintro e w3 ⟨v3,rfl,hh,kk⟩
 obtain ⟨bb,bo⟩:=kk.bx HBK2.out HNP.out HO2.out
 have HS3:=hideR hh
 have HBK3:=hideR bb
 have HO3:=hideR bo
 have HK3:=hideR (HK2.out.trans kk)
 clear hh kk bb bo HC HS2 HBK2 HK2 HO2 k0 k1 k2
 have k0:=HBK3.out.cell 0 _ rfl
 have k1:=HBK3.out.cell 1 _ rfl
 have k2:=HBK3.out.cell 2 _ rfl
 have HE:Hid (WS w0 p c v3 b9 w3):=hideR (by rw [HB9.out];simpa using HS3.out)
 go_wp2
 go_end0
 exact ⟨_,rfl,HE.out,HK3.out⟩
set_option maxRecDepth 100000 in
set_option maxHeartbeats 2000000 in
theorem wLimF (w0:World) (p:Nat) (c:Nat->Value) (v:Value) (bs:List Int) (x:Lim) (w:World) (h:WS w0 p c v bs w) (h1:0<=x.min/\x.min<=4294967295) (h2:0<=x.max/\x.max<=4294967295) (hn:bs.length<=40000000000000):Calls Tryd.prog 63 #[.pointer (some ⟨p,0,none⟩),.agg #[.int .i64 x.min,.int .i64 x.max,.bool false]] w (Does w0 p c v w (bs++([one false]++Leb.uB x.min))):=by
 have hu:=Leb.uB_ten h1.1 (by omega:x.min<=18446744073709551615)
 have hpw:p<w.heap.size:=h.lt
 have hown:∀k,v.ownBlock=some k->k<w.heap.size:=fun k hk=>(h.own.lt k hk).2
 have HBK0:=hideR (Bx.new (w:=w) (b:=w.heap.size) (t:=73) (cs:=#[.int .i64 x.min,.int .i64 x.max,.bool false]) rfl)
 obtain ⟨u1,hu1⟩:∃u1,u1=w.alloc (.cells #[.int .i64 x.min,.int .i64 x.max,.bool false] 73):=⟨_,rfl⟩
 have HU:=hideR (new_on' w (.cells #[.int .i64 x.min,.int .i64 x.max,.bool false] 73))
 rw [<- hu1] at HBK0 HU
 have HS0:=hideR (h.on HU.out)
 have HO0:Hid (some w.heap.size≠v.ownBlock):=hideR (fun e=>by have:=hown _ e.symm;omega)
 have HNP:Hid (w.heap.size≠p):=hideR (by omega)
 have HK0:Hid (Kept p v w v u1):=hideR (Kept.below HU.out)
 have HU1:=hideR hu1
 clear h hpw hown HU hu1
 obtain ⟨b9,hb9⟩:∃b9,b9=bs++([one false]++Leb.uB x.min):=⟨_,rfl⟩
 rw [<- hb9]
 have HB9:=hideR hb9
 clear hb9
 go_enter Tryd.func63,Tryd.ntmps63
 go_upto_region 1 with fail
 rw [<- HU1.out]
 generalize hp3:w.heap.size=p3 at HBK0 HO0 HNP ⊢
 clear HU1
 have k0:=HBK0.out.cell 0 _ rfl
 have k1:=HBK0.out.cell 1 _ rfl
 have k2:=HBK0.out.cell 2 _ rfl
 have HC:=hideR (wFlag w0 p c v (bs) false u1 HS0.out (by omega))
 go_wp2_with fail
 refine HC.out.mono ?_
 rintro e w1 ⟨v1,rfl,hh,kk⟩
 obtain ⟨bb,bo⟩:=kk.bx HBK0.out HNP.out HO0.out
 have HS1:=hideR hh
 have HBK1:=hideR bb
 have HO1:=hideR bo
 have HK1:=hideR (HK0.out.trans kk)
 clear hh kk bb bo HC HS0 HBK0 HK0 HO0 k0 k1 k2
 have k0:=HBK1.out.cell 0 _ rfl
 have k1:=HBK1.out.cell 1 _ rfl
 have k2:=HBK1.out.cell 2 _ rfl
 have HC:=hideR (wU w0 p c v1 (bs++[one false]) x.min w1 HS1.out h1.1 (by omega) (by simp only [List.length_append,List.length_cons,List.length_nil];omega))
 go_wp2_with fail
 refine HC.out.mono ?_
 rintro e w2 ⟨v2,rfl,hh,kk⟩
 obtain ⟨bb,bo⟩:=kk.bx HBK1.out HNP.out HO1.out
 have HS2:=hideR hh
 have HBK2:=hideR bb
 have HO2:=hideR bo
 have HK2:=hideR (HK1.out.trans kk)
 clear hh kk bb bo HC HS1 HBK1 HK1 HO1 k0 k1 k2
 have k0:=HBK2.out.cell 0 _ rfl
 have k1:=HBK2.out.cell 1 _ rfl
 have k2:=HBK2.out.cell 2 _ rfl
 have HE:Hid (WS w0 p c v2 b9 w2):=hideR (by rw [HB9.out];simpa using HS2.out)
 go_wp2
 go_end0
 exact ⟨_,rfl,HE.out,HK2.out⟩
theorem wLim (w0:World) (p:Nat) (c:Nat->Value) (v:Value) (bs:List Int) (x:Lim) (w:World) (h:WS w0 p c v bs w) (h1:0<=x.min/\x.min<=4294967295) (h2:0<=x.max/\x.max<=4294967295) (hn:bs.length<=40000000000000) :
  Calls Tryd.prog 63 #[.pointer (some ⟨p,0,none⟩),.agg #[.int .i64 x.min,.int .i64 x.max,.bool x.has]] w (Does w0 p c v w (bs++limB x)):=by
 unfold limB
 cases hx:x.has
 ·rw [if_neg (by simp),List.append_nil];exact wLimF w0 p c v bs x w h h1 h2 hn
 ·rw [if_pos rfl];exact wLimT w0 p c v bs x w h h1 h2 hn
end Go.Proofs.YtlcpagiljfpbpaaDoor

namespace Go.Proofs.YtlcpagiljfpbpaaDoor
open Go.RowKit Rep Enc Go.Lib
set_option linter.unusedVariables false
namespace Enc
theorem WS.fld {w0 w:World} {p:Nat} {c:Nat->Value} {v:Value} {bs:List Int} (h:WS w0 p c v bs w) (i:Nat) (hi:i<10):w.cell? ⟨p,i,none⟩=some (c i):=by
 unfold World.cell?
 rw [h.blk]
 have:i=0\/i=1\/i=2\/i=3\/i=4\/i=5\/i=6\/i=7\/i=8\/i=9:=by omega
 rcases this with rfl|rfl|rfl|rfl|rfl|rfl|rfl|rfl|rfl|rfl<;>rfl
theorem typB_len (l:List Int) (h:l.length<=1000000):(typB l).length<=1000010:=by
 have h1:=Leb.uB_ten (n:=(l.length:Int)) (by omega) (by omega)
 have h2:=flat_le (f:=fun x=>[x%256]) 1 l fun x _=>by simp
 unfold typB
 rw [List.length_append];omega
end Enc
set_option maxRecDepth 100000 in
set_option maxHeartbeats 2000000 in
theorem eType (w0:World) (p:Nat) (c:Nat->Value) (v:Value) (bs:List Int) (d:Nat) (m:Mod d) (w:World) (h:WS w0 p c v bs w) (hM:ModAt w0 d (c 0) (c 1) (c 2) (c 3) (c 4) (c 5) (c 6) (c 7) (c 8) (c 9) m) (i:Nat) (x:FT) (hx:m.types[i]?=some x) (l1:x.params.length<=1000000) (l2:x.results.length<=1000000) (hn:bs.length<=39000000000000):Calls Tryd.prog 34 #[.pointer (some ⟨p,0,none⟩),.int .i64 (i:Nat)] w (Does w0 p c v w (bs++([96]++typB x.params++typB x.results))):=by
 have hi:i<m.types.length:=(List.getElem?_eq_some_iff.1 hx).1
 obtain ⟨b1,off1,cap1,hcv,hcx⟩:=Row.some hM.types (by omega)
 have kc:=h.fld 0 (by omega)
 rw [hcv] at kc
 obtain ⟨⟨v1,cx0,ax1⟩,⟨v2,cx1,ax2⟩⟩:=hcx i x hx
 have t1:=typB_len x.params l1
 obtain ⟨q1,z1,rfl⟩:=Row.len ax1
 obtain ⟨q2,z2,rfl⟩:=Row.len ax2
 have AX1:=hideR ax1
 have AX2:=hideR ax2
 clear ax1 ax2
 generalize hy1:x.params.length=y1 at *
 generalize hy2:x.results.length=y2 at *
 have cz0:=cell_on h.below cx0
 have cz1:=cell_on h.below cx1
 clear hcv hcx hM hx cx0 cx1
 generalize m.types.length=n at *
 have hpw:p<w.heap.size:=h.lt
 have hown:∀k,v.ownBlock=some k->k<w.heap.size:=fun k hk=>(h.own.lt k hk).2
 have HBK0:=hideR (Bx.new (w:=w) (b:=w.heap.size) (t:=48) (cs:=#[.slice q1 y1 z1,.slice q2 y2 z2]) rfl)
 obtain ⟨u1,hu1⟩:∃u1,u1=w.alloc (.cells #[.slice q1 y1 z1,.slice q2 y2 z2] 48):=⟨_,rfl⟩
 have HU:=hideR (new_on' w (.cells #[.slice q1 y1 z1,.slice q2 y2 z2] 48))
 rw [<- hu1] at HBK0 HU
 have HS0:=hideR (h.on HU.out)
 have HO0:Hid (some w.heap.size≠v.ownBlock):=hideR (fun e=>by have:=hown _ e.symm;omega)
 have HNP:Hid (w.heap.size≠p):=hideR (by omega)
 have HK0:Hid (Kept p v w v u1):=hideR (Kept.below HU.out)
 have HU1:=hideR hu1
 clear h hpw hown HU hu1
 obtain ⟨b9,hb9⟩:∃b9,b9=bs++([96]++typB x.params++typB x.results):=⟨_,rfl⟩
 rw [<- hb9]
 have HB9:=hideR hb9
 clear hb9
 go_enter Tryd.func34,Tryd.ntmps34
 go_upto_region 1 with fail
 rw [<- HU1.out]
 clear HU1 kc cz0 cz1
 generalize hp3:w.heap.size=p3 at HBK0 HO0 HNP ⊢
 have k0:=HBK0.out.cell 0 _ rfl
 have k1:=HBK0.out.cell 1 _ rfl
 have HC:=hideR (wPut w0 p c v (bs) 96 u1 HS0.out (by first|omega|(simp only [List.length_append];omega)|(simp only [List.length_append,List.length_cons,List.length_nil];omega)))
 go_wp2_with fail
 refine HC.out.mono ?_
 rintro e w1 ⟨v1,rfl,hh,kk⟩
 obtain ⟨bb,bo⟩:=kk.bx HBK0.out HNP.out HO0.out
 have HS1:=hideR hh
 have HBK1:=hideR bb
 have HO1:=hideR bo
 have HK1:=hideR (HK0.out.trans kk)
 clear hh kk bb bo HC HS0 HBK0 HK0 HO0 k0 k1
 have k0:=HBK1.out.cell 0 _ rfl
 have k1:=HBK1.out.cell 1 _ rfl
 have HC:=hideR (wTyp w0 p c v1 (bs++[96]) _ x.params w1 HS1.out AX1.out (by omega) (by first|omega|(simp only [List.length_append];omega)|(simp only [List.length_append,List.length_cons,List.length_nil];omega)))
 go_wp2_with fail
 refine HC.out.mono ?_
 rintro e w2 ⟨v2,rfl,hh,kk⟩
 obtain ⟨bb,bo⟩:=kk.bx HBK1.out HNP.out HO1.out
 have HS2:=hideR hh
 have HBK2:=hideR bb
 have HO2:=hideR bo
 have HK2:=hideR (HK1.out.trans kk)
 clear hh kk bb bo HC HS1 HBK1 HK1 HO1 k0 k1
 have k0:=HBK2.out.cell 0 _ rfl
 have k1:=HBK2.out.cell 1 _ rfl
 have HC:=hideR (wTyp w0 p c v2 (bs++[96]++typB x.params) _ x.results w2 HS2.out AX2.out (by omega) (by first|omega|(simp only [List.length_append];omega)|(simp only [List.length_append,List.length_cons,List.length_nil];omega)))
 go_wp2_with fail
 refine HC.out.mono ?_
 rintro e w3 ⟨v3,rfl,hh,kk⟩
 obtain ⟨bb,bo⟩:=kk.bx HBK2.out HNP.out HO2.out
 have HS3:=hideR hh
 have HBK3:=hideR bb
 have HO3:=hideR bo
 have HK3:=hideR (HK2.out.trans kk)
 clear hh kk bb bo HC HS2 HBK2 HK2 HO2 k0 k1
 have HE:Hid (WS w0 p c v3 b9 w3):=hideR (by rw [HB9.out];simpa [List.append_assoc] using HS3.out)
 go_wp2
 go_end0
 exact ⟨_,rfl,HE.out,HK3.out⟩
set_option maxRecDepth 100000 in
set_option maxHeartbeats 2000000 in
theorem eImp (w0:World) (p:Nat) (c:Nat->Value) (v:Value) (bs:List Int) (d:Nat) (m:Mod d) (w:World) (h:WS w0 p c v bs w) (hM:ModAt w0 d (c 0) (c 1) (c 2) (c 3) (c 4) (c 5) (c 6) (c 7) (c 8) (c 9) m) (i:Nat) (x:Imp) (hx:m.imports[i]?=some x) (l1:x.mod.size<=1000000) (l2:x.name.size<=1000000) (l3:0<=x.type/\x.type<=4294967295) (hn:bs.length<=39000000000000):Calls Tryd.prog 35 #[.pointer (some ⟨p,0,none⟩),.int .i64 (i:Nat)] w (Does w0 p c v w (bs++((Leb.uB (x.mod.size:Int)++nums x.mod)++(Leb.uB (x.name.size:Int)++nums x.name)++[0]++Leb.uB x.type))):=by
 have hi:i<m.imports.length:=(List.getElem?_eq_some_iff.1 hx).1
 obtain ⟨b1,off1,cap1,hcv,hcx⟩:=Row.some hM.imports (by omega)
 have kc:=h.fld 1 (by omega)
 rw [hcv] at kc
 obtain ⟨cx0,cx1,cx2⟩:=hcx i x hx
 have t1:=Leb.uB_ten (n:=(x.mod.size:Int)) (by omega) (by omega)
 have t2:=Leb.uB_ten (n:=(x.name.size:Int)) (by omega) (by omega)
 have t3:=nums_len x.mod
 have t4:=nums_len x.name
 have cz0:=cell_on h.below cx0
 have cz1:=cell_on h.below cx1
 have cz2:=cell_on h.below cx2
 clear hcv hcx hM hx cx0 cx1 cx2
 generalize m.imports.length=n at *
 have hpw:p<w.heap.size:=h.lt
 have hown:∀k,v.ownBlock=some k->k<w.heap.size:=fun k hk=>(h.own.lt k hk).2
 have HBK0:=hideR (Bx.new (w:=w) (b:=w.heap.size) (t:=71) (cs:=#[.string x.mod,.string x.name,.int .i64 x.type]) rfl)
 obtain ⟨u1,hu1⟩:∃u1,u1=w.alloc (.cells #[.string x.mod,.string x.name,.int .i64 x.type] 71):=⟨_,rfl⟩
 have HU:=hideR (new_on' w (.cells #[.string x.mod,.string x.name,.int .i64 x.type] 71))
 rw [<- hu1] at HBK0 HU
 have HS0:=hideR (h.on HU.out)
 have HO0:Hid (some w.heap.size≠v.ownBlock):=hideR (fun e=>by have:=hown _ e.symm;omega)
 have HNP:Hid (w.heap.size≠p):=hideR (by omega)
 have HK0:Hid (Kept p v w v u1):=hideR (Kept.below HU.out)
 have HU1:=hideR hu1
 clear h hpw hown HU hu1
 obtain ⟨b9,hb9⟩:∃b9,b9=bs++((Leb.uB (x.mod.size:Int)++nums x.mod)++(Leb.uB (x.name.size:Int)++nums x.name)++[0]++Leb.uB x.type):=⟨_,rfl⟩
 rw [<- hb9]
 have HB9:=hideR hb9
 clear hb9
 go_enter Tryd.func35,Tryd.ntmps35
 go_upto_region 1 with fail
 rw [<- HU1.out]
 clear HU1 kc cz0 cz1 cz2
 generalize hp3:w.heap.size=p3 at HBK0 HO0 HNP ⊢
 have k0:=HBK0.out.cell 0 _ rfl
 have k1:=HBK0.out.cell 1 _ rfl
 have k2:=HBK0.out.cell 2 _ rfl
 have HC:=hideR (wText w0 p c v (bs) x.mod u1 HS0.out (by first|omega|(simp only [List.length_append];omega)|(simp only [List.length_append,List.length_cons,List.length_nil];omega)) (by omega))
 go_wp2_with fail
 refine HC.out.mono ?_
 rintro e w1 ⟨v1,rfl,hh,kk⟩
 obtain ⟨bb,bo⟩:=kk.bx HBK0.out HNP.out HO0.out
 have HS1:=hideR hh
 have HBK1:=hideR bb
 have HO1:=hideR bo
 have HK1:=hideR (HK0.out.trans kk)
 clear hh kk bb bo HC HS0 HBK0 HK0 HO0 k0 k1 k2
 have k0:=HBK1.out.cell 0 _ rfl
 have k1:=HBK1.out.cell 1 _ rfl
 have k2:=HBK1.out.cell 2 _ rfl
 have HC:=hideR (wText w0 p c v1 (bs++Leb.uB (x.mod.size:Int)++nums x.mod) x.name w1 HS1.out (by first|omega|(simp only [List.length_append];omega)|(simp only [List.length_append,List.length_cons,List.length_nil];omega)) (by omega))
 go_wp2_with fail
 refine HC.out.mono ?_
 rintro e w2 ⟨v2,rfl,hh,kk⟩
 obtain ⟨bb,bo⟩:=kk.bx HBK1.out HNP.out HO1.out
 have HS2:=hideR hh
 have HBK2:=hideR bb
 have HO2:=hideR bo
 have HK2:=hideR (HK1.out.trans kk)
 clear hh kk bb bo HC HS1 HBK1 HK1 HO1 k0 k1 k2
 have k0:=HBK2.out.cell 0 _ rfl
 have k1:=HBK2.out.cell 1 _ rfl
 have k2:=HBK2.out.cell 2 _ rfl
 have HC:=hideR (wPut w0 p c v2 (bs++Leb.uB (x.mod.size:Int)++nums x.mod++Leb.uB (x.name.size:Int)++nums x.name) 0 w2 HS2.out (by first|omega|(simp only [List.length_append];omega)|(simp only [List.length_append,List.length_cons,List.length_nil];omega)))
 go_wp2_with fail
 refine HC.out.mono ?_
 rintro e w3 ⟨v3,rfl,hh,kk⟩
 obtain ⟨bb,bo⟩:=kk.bx HBK2.out HNP.out HO2.out
 have HS3:=hideR hh
 have HBK3:=hideR bb
 have HO3:=hideR bo
 have HK3:=hideR (HK2.out.trans kk)
 clear hh kk bb bo HC HS2 HBK2 HK2 HO2 k0 k1 k2
 have k0:=HBK3.out.cell 0 _ rfl
 have k1:=HBK3.out.cell 1 _ rfl
 have k2:=HBK3.out.cell 2 _ rfl
 have HC:=hideR (wU w0 p c v3 (bs++Leb.uB (x.mod.size:Int)++nums x.mod++Leb.uB (x.name.size:Int)++nums x.name++[0]) x.type w3 HS3.out l3.1 (by omega) (by first|omega|(simp only [List.length_append];omega)|(simp only [List.length_append,List.length_cons,List.length_nil];omega)))
 go_wp2_with fail
 refine HC.out.mono ?_
 rintro e w4 ⟨v4,rfl,hh,kk⟩
 obtain ⟨bb,bo⟩:=kk.bx HBK3.out HNP.out HO3.out
 have HS4:=hideR hh
 have HBK4:=hideR bb
 have HO4:=hideR bo
 have HK4:=hideR (HK3.out.trans kk)
 clear hh kk bb bo HC HS3 HBK3 HK3 HO3 k0 k1 k2
 have HE:Hid (WS w0 p c v4 b9 w4):=hideR (by rw [HB9.out];simpa [List.append_assoc] using HS4.out)
 go_wp2
 go_end0
 exact ⟨_,rfl,HE.out,HK4.out⟩
set_option maxRecDepth 100000 in
set_option maxHeartbeats 2000000 in
theorem eExp (w0:World) (p:Nat) (c:Nat->Value) (v:Value) (bs:List Int) (d:Nat) (m:Mod d) (w:World) (h:WS w0 p c v bs w) (hM:ModAt w0 d (c 0) (c 1) (c 2) (c 3) (c 4) (c 5) (c 6) (c 7) (c 8) (c 9) m) (i:Nat) (x:Exp) (hx:m.exports[i]?=some x) (l1:x.name.size<=1000000) (l3:0<=x.index/\x.index<=4294967295) (hn:bs.length<=39000000000000):Calls Tryd.prog 40 #[.pointer (some ⟨p,0,none⟩),.int .i64 (i:Nat)] w (Does w0 p c v w (bs++((Leb.uB (x.name.size:Int)++nums x.name)++[x.kind%256]++Leb.uB x.index))):=by
 have hi:i<m.exports.length:=(List.getElem?_eq_some_iff.1 hx).1
 obtain ⟨b1,off1,cap1,hcv,hcx⟩:=Row.some hM.exports (by omega)
 have kc:=h.fld 6 (by omega)
 rw [hcv] at kc
 obtain ⟨cx0,cx1,cx2⟩:=hcx i x hx
 have t2:=Leb.uB_ten (n:=(x.name.size:Int)) (by omega) (by omega)
 have t4:=nums_len x.name
 have cz0:=cell_on h.below cx0
 have cz1:=cell_on h.below cx1
 have cz2:=cell_on h.below cx2
 clear hcv hcx hM hx cx0 cx1 cx2
 generalize m.exports.length=n at *
 have hpw:p<w.heap.size:=h.lt
 have hown:∀k,v.ownBlock=some k->k<w.heap.size:=fun k hk=>(h.own.lt k hk).2
 have HBK0:=hideR (Bx.new (w:=w) (b:=w.heap.size) (t:=76) (cs:=#[.string x.name,.int .i64 x.kind,.int .i64 x.index]) rfl)
 obtain ⟨u1,hu1⟩:∃u1,u1=w.alloc (.cells #[.string x.name,.int .i64 x.kind,.int .i64 x.index] 76):=⟨_,rfl⟩
 have HU:=hideR (new_on' w (.cells #[.string x.name,.int .i64 x.kind,.int .i64 x.index] 76))
 rw [<- hu1] at HBK0 HU
 have HS0:=hideR (h.on HU.out)
 have HO0:Hid (some w.heap.size≠v.ownBlock):=hideR (fun e=>by have:=hown _ e.symm;omega)
 have HNP:Hid (w.heap.size≠p):=hideR (by omega)
 have HK0:Hid (Kept p v w v u1):=hideR (Kept.below HU.out)
 have HU1:=hideR hu1
 clear h hpw hown HU hu1
 obtain ⟨b9,hb9⟩:∃b9,b9=bs++((Leb.uB (x.name.size:Int)++nums x.name)++[x.kind%256]++Leb.uB x.index):=⟨_,rfl⟩
 rw [<- hb9]
 have HB9:=hideR hb9
 clear hb9
 go_enter Tryd.func40,Tryd.ntmps40
 go_upto_region 1 with fail
 rw [<- HU1.out]
 clear HU1 kc cz0 cz1 cz2
 generalize hp3:w.heap.size=p3 at HBK0 HO0 HNP ⊢
 have k0:=HBK0.out.cell 0 _ rfl
 have k1:=HBK0.out.cell 1 _ rfl
 have k2:=HBK0.out.cell 2 _ rfl
 have HC:=hideR (wText w0 p c v (bs) x.name u1 HS0.out (by first|omega|(simp only [List.length_append];omega)|(simp only [List.length_append,List.length_cons,List.length_nil];omega)) (by omega))
 go_wp2_with fail
 refine HC.out.mono ?_
 rintro e w1 ⟨v1,rfl,hh,kk⟩
 obtain ⟨bb,bo⟩:=kk.bx HBK0.out HNP.out HO0.out
 have HS1:=hideR hh
 have HBK1:=hideR bb
 have HO1:=hideR bo
 have HK1:=hideR (HK0.out.trans kk)
 clear hh kk bb bo HC HS0 HBK0 HK0 HO0 k0 k1 k2
 have k0:=HBK1.out.cell 0 _ rfl
 have k1:=HBK1.out.cell 1 _ rfl
 have k2:=HBK1.out.cell 2 _ rfl
 have HC:=hideR (wPut w0 p c v1 (bs++Leb.uB (x.name.size:Int)++nums x.name) x.kind w1 HS1.out (by first|omega|(simp only [List.length_append];omega)|(simp only [List.length_append,List.length_cons,List.length_nil];omega)))
 go_wp2_with fail
 refine HC.out.mono ?_
 rintro e w2 ⟨v2,rfl,hh,kk⟩
 obtain ⟨bb,bo⟩:=kk.bx HBK1.out HNP.out HO1.out
 have HS2:=hideR hh
 have HBK2:=hideR bb
 have HO2:=hideR bo
 have HK2:=hideR (HK1.out.trans kk)
 clear hh kk bb bo HC HS1 HBK1 HK1 HO1 k0 k1 k2
 have k0:=HBK2.out.cell 0 _ rfl
 have k1:=HBK2.out.cell 1 _ rfl
 have k2:=HBK2.out.cell 2 _ rfl
 have HC:=hideR (wU w0 p c v2 (bs++Leb.uB (x.name.size:Int)++nums x.name++[x.kind%256]) x.index w2 HS2.out l3.1 (by omega) (by first|omega|(simp only [List.length_append];omega)|(simp only [List.length_append,List.length_cons,List.length_nil];omega)))
 go_wp2_with fail
 refine HC.out.mono ?_
 rintro e w3 ⟨v3,rfl,hh,kk⟩
 obtain ⟨bb,bo⟩:=kk.bx HBK2.out HNP.out HO2.out
 have HS3:=hideR hh
 have HBK3:=hideR bb
 have HO3:=hideR bo
 have HK3:=hideR (HK2.out.trans kk)
 clear hh kk bb bo HC HS2 HBK2 HK2 HO2 k0 k1 k2
 have HE:Hid (WS w0 p c v3 b9 w3):=hideR (by rw [HB9.out];simpa [List.append_assoc] using HS3.out)
 go_wp2
 go_end0
 exact ⟨_,rfl,HE.out,HK3.out⟩
end Go.Proofs.YtlcpagiljfpbpaaDoor

namespace Go.Proofs.YtlcpagiljfpbpaaDoor
open Go.RowKit Rep Enc Go.Lib
set_option linter.unusedVariables false
set_option maxRecDepth 100000 in
set_option maxHeartbeats 2000000 in
theorem eFun (w0:World) (p:Nat) (c:Nat->Value) (v:Value) (bs:List Int) (d:Nat) (m:Mod d) (w:World) (h:WS w0 p c v bs w) (hM:ModAt w0 d (c 0) (c 1) (c 2) (c 3) (c 4) (c 5) (c 6) (c 7) (c 8) (c 9) m) (i:Nat) (x:Fun d) (hx:m.funcs[i]?=some x) (l3:0<=x.type/\x.type<=4294967295) (hn:bs.length<=39000000000000):Calls Tryd.prog 36 #[.pointer (some ⟨p,0,none⟩),.int .i64 (i:Nat)] w (Does w0 p c v w (bs++(Leb.uB x.type))):=by
 have hi:i<m.funcs.length:=(List.getElem?_eq_some_iff.1 hx).1
 obtain ⟨b1,off1,cap1,hcv,hcx⟩:=Row.some hM.funcs (by omega)
 obtain ⟨cx0,_,_⟩:=hcx i x hx
 have HCV:=hideR hcv
 have Hcx0:=hideR cx0
 clear hcv hcx hM hx cx0
 generalize m.funcs.length=n at *
 have HS0:=hideR h
 have HK0:Hid (Kept p v w v w):=hideR (Kept.refl _ _ _)
 clear h
 obtain ⟨b9,hb9⟩:∃b9,b9=bs++(Leb.uB x.type):=⟨_,rfl⟩
 rw [<- hb9]
 have HB9:=hideR hb9
 clear hb9
 go_enter Tryd.func36,Tryd.ntmps36
 have kc:=HS0.out.fld 2 (by omega)
 rw [HCV.out] at kc
 have kcx0:=cell_on HS0.out.below Hcx0.out
 have HC:=hideR (wU w0 p c v (bs) x.type w HS0.out l3.1 (by omega) (by first|omega|(simp only [List.length_append];omega)|(simp only [List.length_append,List.length_cons,List.length_nil];omega)))
 go_wp2_with fail
 refine HC.out.mono ?_
 rintro e w1 ⟨v1,rfl,hh,kk⟩
 have HS1:=hideR hh
 have HK1:=hideR (HK0.out.trans kk)
 clear hh kk HC HS0 HK0 kc kcx0
 have HE:Hid (WS w0 p c v1 b9 w1):=hideR (by rw [HB9.out];simpa [List.append_assoc] using HS1.out)
 go_wp2
 go_end0
 exact ⟨_,rfl,HE.out,HK1.out⟩
set_option maxRecDepth 100000 in
set_option maxHeartbeats 2000000 in
theorem eTab (w0:World) (p:Nat) (c:Nat->Value) (v:Value) (bs:List Int) (d:Nat) (m:Mod d) (w:World) (h:WS w0 p c v bs w) (hM:ModAt w0 d (c 0) (c 1) (c 2) (c 3) (c 4) (c 5) (c 6) (c 7) (c 8) (c 9) m) (i:Nat) (x:Lim) (hx:m.tables[i]?=some x) (l1:0<=x.min/\x.min<=4294967295) (l2:0<=x.max/\x.max<=4294967295) (hn:bs.length<=39000000000000):Calls Tryd.prog 37 #[.pointer (some ⟨p,0,none⟩),.int .i64 (i:Nat)] w (Does w0 p c v w (bs++([112]++limB x))):=by
 have hi:i<m.tables.length:=(List.getElem?_eq_some_iff.1 hx).1
 obtain ⟨b1,off1,cap1,hcv,hcx⟩:=Row.some hM.tables (by omega)
 obtain ⟨cx0,cx1,cx2⟩:=hcx i x hx
 have HCV:=hideR hcv
 have Hcx0:=hideR cx0
 have Hcx1:=hideR cx1
 have Hcx2:=hideR cx2
 clear hcv hcx hM hx cx0 cx1 cx2
 generalize m.tables.length=n at *
 have HS0:=hideR h
 have HK0:Hid (Kept p v w v w):=hideR (Kept.refl _ _ _)
 clear h
 obtain ⟨b9,hb9⟩:∃b9,b9=bs++([112]++limB x):=⟨_,rfl⟩
 rw [<- hb9]
 have HB9:=hideR hb9
 clear hb9
 go_enter Tryd.func37,Tryd.ntmps37
 have kc:=HS0.out.fld 3 (by omega)
 rw [HCV.out] at kc
 have kcx0:=cell_on HS0.out.below Hcx0.out
 have kcx1:=cell_on HS0.out.below Hcx1.out
 have kcx2:=cell_on HS0.out.below Hcx2.out
 have HC:=hideR (wPut w0 p c v (bs) 112 w HS0.out (by first|omega|(simp only [List.length_append];omega)|(simp only [List.length_append,List.length_cons,List.length_nil];omega)))
 go_wp2_with fail
 refine HC.out.mono ?_
 rintro e w1 ⟨v1,rfl,hh,kk⟩
 have HS1:=hideR hh
 have HK1:=hideR (HK0.out.trans kk)
 clear hh kk HC HS0 HK0 kc kcx0 kcx1 kcx2
 have kc:=HS1.out.fld 3 (by omega)
 rw [HCV.out] at kc
 have kcx0:=cell_on HS1.out.below Hcx0.out
 have kcx1:=cell_on HS1.out.below Hcx1.out
 have kcx2:=cell_on HS1.out.below Hcx2.out
 have HC:=hideR (wLim w0 p c v1 (bs++[112]) x w1 HS1.out l1 l2 (by first|omega|(simp only [List.length_append];omega)|(simp only [List.length_append,List.length_cons,List.length_nil];omega)))
 go_wp2_with fail
 refine HC.out.mono ?_
 rintro e w2 ⟨v2,rfl,hh,kk⟩
 have HS2:=hideR hh
 have HK2:=hideR (HK1.out.trans kk)
 clear hh kk HC HS1 HK1 kc kcx0 kcx1 kcx2
 have HE:Hid (WS w0 p c v2 b9 w2):=hideR (by rw [HB9.out];simpa [List.append_assoc] using HS2.out)
 go_wp2
 go_end0
 exact ⟨_,rfl,HE.out,HK2.out⟩
set_option maxRecDepth 100000 in
set_option maxHeartbeats 2000000 in
theorem eMem (w0:World) (p:Nat) (c:Nat->Value) (v:Value) (bs:List Int) (d:Nat) (m:Mod d) (w:World) (h:WS w0 p c v bs w) (hM:ModAt w0 d (c 0) (c 1) (c 2) (c 3) (c 4) (c 5) (c 6) (c 7) (c 8) (c 9) m) (i:Nat) (x:Lim) (hx:m.mems[i]?=some x) (l1:0<=x.min/\x.min<=4294967295) (l2:0<=x.max/\x.max<=4294967295) (hn:bs.length<=39000000000000):Calls Tryd.prog 38 #[.pointer (some ⟨p,0,none⟩),.int .i64 (i:Nat)] w (Does w0 p c v w (bs++(limB x))):=by
 have hi:i<m.mems.length:=(List.getElem?_eq_some_iff.1 hx).1
 obtain ⟨b1,off1,cap1,hcv,hcx⟩:=Row.some hM.mems (by omega)
 obtain ⟨cx0,cx1,cx2⟩:=hcx i x hx
 have HCV:=hideR hcv
 have Hcx0:=hideR cx0
 have Hcx1:=hideR cx1
 have Hcx2:=hideR cx2
 clear hcv hcx hM hx cx0 cx1 cx2
 generalize m.mems.length=n at *
 have HS0:=hideR h
 have HK0:Hid (Kept p v w v w):=hideR (Kept.refl _ _ _)
 clear h
 obtain ⟨b9,hb9⟩:∃b9,b9=bs++(limB x):=⟨_,rfl⟩
 rw [<- hb9]
 have HB9:=hideR hb9
 clear hb9
 go_enter Tryd.func38,Tryd.ntmps38
 have kc:=HS0.out.fld 4 (by omega)
 rw [HCV.out] at kc
 have kcx0:=cell_on HS0.out.below Hcx0.out
 have kcx1:=cell_on HS0.out.below Hcx1.out
 have kcx2:=cell_on HS0.out.below Hcx2.out
 have HC:=hideR (wLim w0 p c v (bs) x w HS0.out l1 l2 (by first|omega|(simp only [List.length_append];omega)|(simp only [List.length_append,List.length_cons,List.length_nil];omega)))
 go_wp2_with fail
 refine HC.out.mono ?_
 rintro e w1 ⟨v1,rfl,hh,kk⟩
 have HS1:=hideR hh
 have HK1:=hideR (HK0.out.trans kk)
 clear hh kk HC HS0 HK0 kc kcx0 kcx1 kcx2
 have HE:Hid (WS w0 p c v1 b9 w1):=hideR (by rw [HB9.out];simpa [List.append_assoc] using HS1.out)
 go_wp2
 go_end0
 exact ⟨_,rfl,HE.out,HK1.out⟩
set_option maxRecDepth 100000 in
set_option maxHeartbeats 2000000 in
theorem eStart (w0:World) (p:Nat) (c:Nat->Value) (v:Value) (bs:List Int) (d:Nat) (m:Mod d) (w:World) (h:WS w0 p c v bs w) (hM:ModAt w0 d (c 0) (c 1) (c 2) (c 3) (c 4) (c 5) (c 6) (c 7) (c 8) (c 9) m) (i:Nat) (x:Int) (hx:m.start[i]?=some x) (l3:0<=x/\x<=4294967295) (hn:bs.length<=39000000000000):Calls Tryd.prog 41 #[.pointer (some ⟨p,0,none⟩),.int .i64 (i:Nat)] w (Does w0 p c v w (bs++(Leb.uB x))):=by
 have hi:i<m.start.length:=(List.getElem?_eq_some_iff.1 hx).1
 obtain ⟨b1,off1,cap1,hcv,hcx⟩:=Row.some hM.start (by omega)
 have cx0:=hcx i x hx
 simp only [Nat.mul_one] at cx0
 have HCV:=hideR hcv
 have Hcx0:=hideR cx0
 clear hcv hcx hM hx cx0
 generalize m.start.length=n at *
 have HS0:=hideR h
 have HK0:Hid (Kept p v w v w):=hideR (Kept.refl _ _ _)
 clear h
 obtain ⟨b9,hb9⟩:∃b9,b9=bs++(Leb.uB x):=⟨_,rfl⟩
 rw [<- hb9]
 have HB9:=hideR hb9
 clear hb9
 go_enter Tryd.func41,Tryd.ntmps41
 have kc:=HS0.out.fld 7 (by omega)
 rw [HCV.out] at kc
 have kcx0:=cell_on HS0.out.below Hcx0.out
 have HC:=hideR (wU w0 p c v (bs) x w HS0.out l3.1 (by omega) (by first|omega|(simp only [List.length_append];omega)|(simp only [List.length_append,List.length_cons,List.length_nil];omega)))
 go_wp2_with fail
 refine HC.out.mono ?_
 rintro e w1 ⟨v1,rfl,hh,kk⟩
 have HS1:=hideR hh
 have HK1:=hideR (HK0.out.trans kk)
 clear hh kk HC HS0 HK0 kc kcx0
 have HE:Hid (WS w0 p c v1 b9 w1):=hideR (by rw [HB9.out];simpa [List.append_assoc] using HS1.out)
 go_wp2
 go_end0
 exact ⟨_,rfl,HE.out,HK1.out⟩
end Go.Proofs.YtlcpagiljfpbpaaDoor

