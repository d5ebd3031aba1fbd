/- Texts that the claim needs. -/
import Derived.Test.YtlcpagiljfpbpaaGreatDoorQELo43
import Derived.Test.YtlcpagiljfpbpaaGreatDoorQELo28
import Derived.Test.YtlcpagiljfpbpaaGreatDoorQELo50
import Derived.Test.YtlcpagiljfpbpaaGreatDoorQELo9
import Derived.Deep.RegionLaw
namespace Go.Proofs.YtlcpagiljfpbpaaGreatDoor
open Go.RowKit Rep Enc Go.Lib
set_option linter.unusedVariables false
namespace Enc
theorem told_pair (bs:List Int):∃S E,told bs=.tuple #[.string S,.int .i64 E]:=⟨_,_,told_eq bs⟩
end Enc
set_option maxRecDepth 100000 in
set_option maxHeartbeats 8000000 in
theorem dEncode (d:Nat) (v0 v1 v2 v3 v4 v5 v6 v7 v8 v9:Value) (m:Mod d) (w:World) (hM:ModAt w d v0 v1 v2 v3 v4 v5 v6 v7 v8 v9 m) (hX:Texts m) (hsz:∀x ∈ m.datas,x.bytes.size<=4611686018427387904) (W:chk m=0->Wr m) :
  Calls Tryz.prog 10 #[.agg #[v0,v1,v2,v3,v4,v5,v6,v7,v8,v9]] w fun e w'=>e=.returned (encA m)/\Below w.heap.size w w':=by
 obtain ⟨o0,k0,rfl⟩:=Row.len hM.types
 obtain ⟨o1,k1,rfl⟩:=Row.len hM.imports
 obtain ⟨o2,k2,rfl⟩:=Row.len hM.funcs
 obtain ⟨o3,k3,rfl⟩:=Row.len hM.tables
 obtain ⟨o4,k4,rfl⟩:=Row.len hM.mems
 obtain ⟨o5,k5,rfl⟩:=Row.len hM.globals
 obtain ⟨o6,k6,rfl⟩:=Row.len hM.exports
 obtain ⟨o7,k7,rfl⟩:=Row.len hM.start
 obtain ⟨o8,k8,rfl⟩:=Row.len hM.elems
 obtain ⟨o9,k9,rfl⟩:=Row.len hM.datas
 obtain ⟨u1,hu1⟩:∃u1,u1=w.alloc (.cells #[.slice o0 m.types.length k0,.slice o1 m.imports.length k1,.slice o2 m.funcs.length k2,.slice o3 m.tables.length k3,.slice o4 m.mems.length k4,.slice o5 m.globals.length k5,.slice o6 m.exports.length k6,.slice o7 m.start.length k7,.slice o8 m.elems.length k8,.slice o9 m.datas.length k9] 32):=⟨_,rfl⟩
 have hb:Below w.heap.size w u1:=by rw [hu1];exact new_on' w _
 have HBX:Hid (Bx u1 w.heap.size 32 #[.slice o0 m.types.length k0,.slice o1 m.imports.length k1,.slice o2 m.funcs.length k2,.slice o3 m.tables.length k3,.slice o4 m.mems.length k4,.slice o5 m.globals.length k5,.slice o6 m.exports.length k6,.slice o7 m.start.length k7,.slice o8 m.elems.length k8,.slice o9 m.datas.length k9]):=hideR (by rw [hu1];exact Bx.new rfl)
 have HC:=hideR (refCheck d _ _ _ _ _ _ _ _ _ _ m u1 (hM.on hb) hX hsz)
 have HM:=hideR hM
 have HB:=hideR hb
 have HW:=hideR W
 have HU:=hideR hu1
 unfold encA
 clear hM hX hsz W hb hu1
 generalize m.types.length=n0 at *
 generalize m.imports.length=n1 at *
 generalize m.funcs.length=n2 at *
 generalize m.tables.length=n3 at *
 generalize m.mems.length=n4 at *
 generalize m.globals.length=n5 at *
 generalize m.exports.length=n6 at *
 generalize m.start.length=n7 at *
 generalize m.elems.length=n8 at *
 generalize m.datas.length=n9 at *
 have q0:=HBX.out.cell 0 _ rfl
 have q1:=HBX.out.cell 1 _ rfl
 have q2:=HBX.out.cell 2 _ rfl
 have q3:=HBX.out.cell 3 _ rfl
 have q4:=HBX.out.cell 4 _ rfl
 have q5:=HBX.out.cell 5 _ rfl
 have q6:=HBX.out.cell 6 _ rfl
 have q7:=HBX.out.cell 7 _ rfl
 have q8:=HBX.out.cell 8 _ rfl
 have q9:=HBX.out.cell 9 _ rfl
 by_cases h0:chk m=0
 ·rw [if_pos h0]
  have HWr:=hideR (HW.out h0)
  rw [h0] at HC
  clear HW
  obtain ⟨id,hid⟩:∃id,modB m=id:=⟨_,rfl⟩
  rw [hid]
  have HID:Hid (headB++fstB (sb m) 11=id):=hideR (by rw [<- hid,modB_sb])
  clear hid
  obtain ⟨S,E,hSE⟩:=told_pair id
  rw [hSE]
  have HSE:=hideR hSE
  clear hSE
  go_enter Tryz.func10,Tryz.ntmps10
  go_upto_region 1 with fail
  rw [<- HU.out]
  clear HU
  go_wp2_with fail
  refine HC.out.mono ?_
  rintro e w1 ⟨rfl,hb1⟩
  have hb2:=HB.out.trans (hb1.mono HB.out.size)
  have HPS:Hid (PS w w1.heap.size false (.slice none 0 0) [] (w1.alloc (.cells #[.slice none 0 0,.bool false] 78))):=hideR ((PS.new w1).mono hb2)
  have HBX1:Hid (Bx (w1.alloc (.cells #[.slice none 0 0,.bool false] 78)) w.heap.size 32 #[.slice o0 n0 k0,.slice o1 n1 k1,.slice o2 n2 k2,.slice o3 n3 k3,.slice o4 n4 k4,.slice o5 n5 k5,.slice o6 n6 k6,.slice o7 n7 k7,.slice o8 n8 k8,.slice o9 n9 k9]):=hideR (by
   unfold Bx
   rw [(new_on' w1 _).block _ (Nat.lt_of_lt_of_le HBX.out.lt hb1.size),hb1.block _ HBX.out.lt];exact HBX.out)
  have HNE:Hid (w.heap.size≠w1.heap.size):=hideR (by have:=hb1.size;have:=HBX.out.lt;omega)
  clear hb1 hb2 HC HB HBX q0 q1 q2 q3 q4 q5 q6 q7 q8 q9
  have HC:=hideR (dPut w w1.heap.size false _ [] [] ⟨#[0,97,115,109,1,0,0,0]⟩ _ HPS.out St.nil (by decide))
  rw [List.nil_append,show nums ⟨#[0,97,115,109,1,0,0,0]⟩=headB from rfl] at HC
  go_wp2_with fail
  refine HC.out.mono ?_
  rintro e w2 ⟨ov2,v2,b2,rfl,h2,s2,k2⟩
  have hbx2:=(k2.bx HBX1.out HNE.out (by simp [Value.ownBlock])).1
  have q0:=hbx2.cell 0 _ rfl
  have q1:=hbx2.cell 1 _ rfl
  have q2:=hbx2.cell 2 _ rfl
  have q3:=hbx2.cell 3 _ rfl
  have q4:=hbx2.cell 4 _ rfl
  have q5:=hbx2.cell 5 _ rfl
  have q6:=hbx2.cell 6 _ rfl
  have q7:=hbx2.cell 7 _ rfl
  have q8:=hbx2.cell 8 _ rfl
  have q9:=hbx2.cell 9 _ rfl
  have HC2:=hideR (dSections w w1.heap.size ov2 v2 b2 headB d _ _ _ _ _ _ _ _ _ _ m w2 h2 s2 HM.out HWr.out)
  rw [HID.out] at HC2
  clear hbx2 h2 s2 k2 HC HPS HBX1 HNE HID HM HWr
  go_wp2_with fail
  refine HC2.out.mono ?_
  rintro e w3 ⟨ov3,v3,b3,rfl,h3,s3,k3⟩
  have ko:=h3.cellO
  have kc:=h3.cell
  have hcv:=own_text h3.own
  obtain ⟨o3,c3,rfl⟩:=h3.slice
  have HB3:=hideR h3.below
  have hf3:=h3.few
  clear HC2 k3 h3 q0 q1 q2 q3 q4 q5 q6 q7 q8 q9
  rcases s3 with ⟨rfl,hb3⟩|⟨rfl,hl⟩
  ·rw [<- hb3] at HSE
   clear hb3
   by_cases hbig:262144<b3.length
   ·have HT:Hid (told b3=.tuple #[.string ⟨#[]⟩,.int .i64 2]):=hideR (by unfold told;rw [if_pos hbig])
    generalize hbl:b3.length=bl at *
    have hd2:(262144:Int)<(bl:Int):=by omega
    clear hcv hbl hf3
    go_wp2
    go_ret2
    exact ⟨congrArg Ending.returned (HT.out.symm.trans HSE.out),HB3.out⟩
   ·have HT:Hid (told b3=.tuple #[.string (strOfNums b3),.int .i64 0]):=hideR (by unfold told;rw [if_neg hbig])
    generalize strOfNums b3=S0 at *
    generalize hbl:b3.length=bl at *
    have hd2:¬ (262144:Int)<(bl:Int):=by omega
    clear hbl hf3 hbig
    go_wp2
    go_ret2
    exact ⟨congrArg Ending.returned (HT.out.symm.trans HSE.out),HB3.out⟩
  ·have HT:Hid (told id=.tuple #[.string ⟨#[]⟩,.int .i64 2]):=hideR (by unfold told;rw [if_pos (by omega)])
   generalize b3.length=bl at *
   clear hcv hl hf3
   go_wp2
   go_ret2
   exact ⟨congrArg Ending.returned (HT.out.symm.trans HSE.out),HB3.out⟩
 ·rw [if_neg h0]
  clear HW HM
  generalize chk m=r at *
  go_enter Tryz.func10,Tryz.ntmps10
  go_upto_region 1 with fail
  rw [<- HU.out]
  clear HU
  go_wp2_with fail
  refine HC.out.mono ?_
  rintro e w1 ⟨rfl,hb1⟩
  have HB1:=hideR (HB.out.trans (hb1.mono HB.out.size))
  clear hb1 HB HC HBX q0 q1 q2 q3 q4 q5 q6 q7 q8 q9
  go_wp2
  go_ret2
  exact ⟨rfl,HB1.out⟩
end Go.Proofs.YtlcpagiljfpbpaaGreatDoor

namespace Go.Proofs.YtlcpagiljfpbpaaGreatDoor
open Go.RowKit Rep Enc Go.Lib
set_option linter.unusedVariables false
namespace Enc
def wakeM:Mod 0:={ types:=[⟨[],[]⟩],imports:=[],funcs:=[],tables:=[],mems:=[],globals:=[],exports:=[],start:=[],elems:=[],datas:=[] }
theorem row_no {α:Type} {k:Nat} {f:Nat->Nat->α->Prop}:Row k f (.slice none 0 0) []:=⟨by simp,.inl ⟨rfl,none,0,rfl⟩⟩
theorem wake_chk:chk wakeM=0:=by decide
theorem wake_wr:Wr wakeM:=⟨fun x hx=>by rw [List.mem_singleton.1 hx];exact ⟨by decide,by decide⟩,fun x hx=>(by cases hx),fun x hx=>(by cases hx),fun x hx=>(by cases hx),fun x hx=>(by cases hx),fun x hx=>(by cases hx),fun x hx=>(by cases hx),fun x hx=>(by cases hx),fun x hx=>(by cases hx),fun x hx=>(by cases hx),by decide,by decide,fun x hx=>(by cases hx),by decide⟩
theorem wake_told:told (modB wakeM)=.tuple #[.string ⟨#[0,97,115,109,1,0,0,0,1,4,1,96,0,0]⟩,.int .i64 0]:=by
 have h:modB wakeM = [0,97,115,109,1,0,0,0,1,4,1,96,0,0]:=by decide
 rw [h];unfold told;rw [if_neg (by decide)];rfl
end Enc
set_option maxRecDepth 100000 in
set_option maxHeartbeats 4000000 in
theorem pWake {I:World->Prop} (C:WastC I) (w:World) (hI:I w):Calls Tryz.prog 7 #[] w fun e w'=>e=.returned (.bool true)/\Below w.heap.size w w':=by
 have hb:=new_on' w (.cells #[.slice none 0 0,.slice none 0 0] 59)
 have hx:=Bx.new (w:=w) (b:=w.heap.size) (t:=59) (cs:=#[.slice none 0 0,.slice none 0 0]) rfl
 have hM:ModAt (w.alloc (.cells #[.slice none 0 0,.slice none 0 0] 59)) 0 (.slice (some ⟨w.heap.size,0,none⟩) 1 1) (.slice none 0 0) (.slice none 0 0) (.slice none 0 0) (.slice none 0 0) (.slice none 0 0) (.slice none 0 0) (.slice none 0 0) (.slice none 0 0) (.slice none 0 0) wakeM :=
  ⟨⟨by show 1<=_;omega,.inr ⟨w.heap.size,0,1,rfl,fun i x hi=>by
   match i,hi with
   | 0,hi =>
    obtain rfl:(⟨[],[]⟩:FT)=x:=by simpa [wakeM] using hi
    exact ⟨⟨_,hx.cell 0 _ rfl,row_no⟩,⟨_,hx.cell 1 _ rfl,row_no⟩⟩
   | i+1,hi=>simp [wakeM] at hi⟩⟩,row_no,row_no,row_no,row_no,row_no,row_no,row_no,row_no,row_no⟩
 have hC:=pEncode1 C 0 _ _ _ _ _ _ _ _ _ _ wakeM _ (C.keep hb hI) hM ⟨by omega,fun x hx=>(by cases hx),⟨fun x hx=>(by cases hx),fun x hx=>(by cases hx)⟩,fun n c h=>(by injection h with _ _ h;exact h.symm),fun n c h=>(by injection h with _ _ h;exact h.symm)⟩ wake_chk wake_wr
 rw [wake_told] at hC
 have HC:=hideR hC
 have HB:=hideR hb
 clear hC hM hx hb hI
 go_enter Tryz.func7,Tryz.ntmps7
 go_wp2_with fail
 refine HC.out.mono ?_
 rintro e w1 ⟨rfl,hb1⟩
 have HB1:=hideR (HB.out.trans (hb1.mono HB.out.size))
 clear hb1 HB HC
 go_wp2
 go_ret
 exact ⟨rfl,HB1.out⟩
end Go.Proofs.YtlcpagiljfpbpaaGreatDoor

namespace Go.Proofs.YtlcpagiljfpbpaaGreatDoor
open Go.RowKit Rep
set_option linter.unusedVariables false
namespace Rep
section P
variable {P:Program}
end P
section W
variable {α:Type} {c:Nat} {f:World->Nat->Nat->α->Prop} {cs:α->List Value} {w:World} {l:List α}
end W
section Blk
variable {w:World} {b:Nat} {c0 c1 c2 c3 c4 c5 c6 c7 c8 c9:Value}
def setAll (w:World) (b:Nat) (d0 d1 d2 d3 d4 d5 d6 d7 d8 d9:Value):World :=
 (((((((((w.setCell ⟨b,0,none⟩ d0).setCell ⟨b,1,none⟩ d1).setCell ⟨b,2,none⟩ d2).setCell ⟨b,3,none⟩ d3).setCell ⟨b,4,none⟩ d4).setCell ⟨b,5,none⟩ d5).setCell ⟨b,6,none⟩ d6).setCell ⟨b,7,none⟩ d7).setCell ⟨b,8,none⟩ d8).setCell ⟨b,9,none⟩ d9
theorem BlkM.all (h:BlkM w b c0 c1 c2 c3 c4 c5 c6 c7 c8 c9) (d0 d1 d2 d3 d4 d5 d6 d7 d8 d9:Value):BlkM (setAll w b d0 d1 d2 d3 d4 d5 d6 d7 d8 d9) b d0 d1 d2 d3 d4 d5 d6 d7 d8 d9:=by
 have h0:BlkM (w.setCell ⟨b,0,none⟩ d0) b d0 c1 c2 c3 c4 c5 c6 c7 c8 c9:=heap_setCell_same _ b 0 _ _ _ h
 have h1:BlkM _ b d0 d1 c2 c3 c4 c5 c6 c7 c8 c9:=heap_setCell_same _ b 1 _ _ d1 h0
 have h2:BlkM _ b d0 d1 d2 c3 c4 c5 c6 c7 c8 c9:=heap_setCell_same _ b 2 _ _ d2 h1
 have h3:BlkM _ b d0 d1 d2 d3 c4 c5 c6 c7 c8 c9:=heap_setCell_same _ b 3 _ _ d3 h2
 have h4:BlkM _ b d0 d1 d2 d3 d4 c5 c6 c7 c8 c9:=heap_setCell_same _ b 4 _ _ d4 h3
 have h5:BlkM _ b d0 d1 d2 d3 d4 d5 c6 c7 c8 c9:=heap_setCell_same _ b 5 _ _ d5 h4
 have h6:BlkM _ b d0 d1 d2 d3 d4 d5 d6 c7 c8 c9:=heap_setCell_same _ b 6 _ _ d6 h5
 have h7:BlkM _ b d0 d1 d2 d3 d4 d5 d6 d7 c8 c9:=heap_setCell_same _ b 7 _ _ d7 h6
 have h8:BlkM _ b d0 d1 d2 d3 d4 d5 d6 d7 d8 c9:=heap_setCell_same _ b 8 _ _ d8 h7
 exact heap_setCell_same _ b 9 _ _ d9 h8
theorem setAll_below {B:Nat} {w0:World} (h:Below B w0 w) (hb:B<=b) (d0 d1 d2 d3 d4 d5 d6 d7 d8 d9:Value):Below B w0 (setAll w b d0 d1 d2 d3 d4 d5 d6 d7 d8 d9):=by
 unfold setAll
 repeat refine Below.setCell ?_ hb _
 exact h
end Blk
end Rep
end Go.Proofs.YtlcpagiljfpbpaaGreatDoor

namespace Go.Proofs.YtlcpagiljfpbpaaGreatDoor
open Go.RowKit Rep
set_option linter.unusedVariables false
namespace Rep
section M
variable {k d:Nat} {w1 w w9:World} {b:Nat} {t t':Value} {m:Mod d} {c0 c1 c2 c3 c4 c5 c6 c7 c8:Value}
theorem St.step (h:St k w1 w b t m c0 c1 c2 c3 c4 c5 c6 c7 c8) (hg:w.grownBy w9 t.ownBlock) (hv:t'.ownBlock=t.ownBlock\/t'.ownBlock=some w.heap.size) (hlt:∀k,t.ownBlock=some k->w1.heap.size<=k/\k<w.heap.size) (i:Nat) (u:Value):St k w1 (w9.setCell ⟨b,i,none⟩ u) b t' m c0 c1 c2 c3 c4 c5 c6 c7 c8 :=
 h.keep ((sub_grown hg hv).trans sub_set) ((h.below.grown hg h.below.size fun k hk=>(hlt k hk).1).setCell h.base _)
end M
end Rep
end Go.Proofs.YtlcpagiljfpbpaaGreatDoor

namespace Go.Proofs.YtlcpagiljfpbpaaGreatDoor
open Go.RowKit Rep
set_option linter.unusedVariables false
namespace Rep
def BlkG (w:World) (b:Nat) (c0 c1 c2 c3 c4 c5 c6 c7 c8:Value):Prop:=w.heap[b]?=some (.cells #[c0,c1,c2,c3,c4,c5,c6,c7,c8] 63 (0,0))
section
variable {w w':World} {b:Nat} {c0 c1 c2 c3 c4 c5 c6 c7 c8:Value}
theorem BlkG.cell (h:BlkG w b c0 c1 c2 c3 c4 c5 c6 c7 c8) (i:Nat) (v:Value) (hv:#[c0,c1,c2,c3,c4,c5,c6,c7,c8][i]?=some v):w.cell? ⟨b,i,none⟩=some v:=by
 unfold World.cell?;rw [h];exact hv
theorem BlkG.frz (h:BlkG w b c0 c1 c2 c3 c4 c5 c6 c7 c8) (i:Nat):w.frozen? ⟨b,i,none⟩=false:=by
 unfold World.frozen?;rw [h];simp
theorem BlkG.lt (h:BlkG w b c0 c1 c2 c3 c4 c5 c6 c7 c8):b<w.heap.size:=(Array.getElem?_eq_some_iff.1 h).1
theorem BlkG.on (h:BlkG w b c0 c1 c2 c3 c4 c5 c6 c7 c8) (hb:Below w.heap.size w w'):BlkG w' b c0 c1 c2 c3 c4 c5 c6 c7 c8:=by
 have:=h.lt
 unfold BlkG at *;rw [hb.block b this];exact h
theorem BlkG.new (hp:b=w.heap.size):BlkG (w.alloc (.cells #[c0,c1,c2,c3,c4,c5,c6,c7,c8] 63)) b c0 c1 c2 c3 c4 c5 c6 c7 c8:=by
 subst hp;exact heap_alloc_new w _
end
set_option maxHeartbeats 1000000 in
theorem store10 {a:Act} {w:World} {K:Act->World->Prop} {Q:Exit->Act->World->Prop} {s t:Nat} {ty:TypeId} {pos:String} {af:Array Edge} {b:Nat} {c0 c1 c2 c3 c4 c5 c6 c7 c8 c9:Value} {a0 a1 a2 a3 a4 a5 a6 a7 a8 a9:Option Addr} {n0 n1 n2 n3 n4 n5 n6 n7 n8 n9 b0 b1 b2 b3 b4 b5 b6 b7 b8 b9:Nat}
  (h3:a.tmps[s]?.getD undef=.pointer (some ⟨b,0,none⟩)) (h4:a.tmps[t]?.getD undef=.agg #[.slice a0 n0 b0,.slice a1 n1 b1,.slice a2 n2 b2,.slice a3 n3 b3,.slice a4 n4 b4,.slice a5 n5 b5,.slice a6 n6 b6,.slice a7 n7 b7,.slice a8 n8 b8,.slice a9 n9 b9])
  (hb:BlkM w b c0 c1 c2 c3 c4 c5 c6 c7 c8 c9) (hK:K a (setAll w b (.slice a0 n0 b0) (.slice a1 n1 b1) (.slice a2 n2 b2) (.slice a3 n3 b3) (.slice a4 n4 b4) (.slice a5 n5 b5) (.slice a6 n6 b6) (.slice a7 n7 b7) (.slice a8 n8 b8) (.slice a9 n9 b9))) :
  Oper.wp Tryz.prog { dst:=none,op:=.store 32 (.tmp s) (.tmp t),type:=ty,pos:=pos,after:=af,guard:=none } a w K Q:=by
 have e0:=hb.cell 0 _ rfl
 have f0:=hb.frz 0
 have e1:=hb.cell 1 _ rfl
 have f1:=hb.frz 1
 have e2:=hb.cell 2 _ rfl
 have f2:=hb.frz 2
 have e3:=hb.cell 3 _ rfl
 have f3:=hb.frz 3
 have e4:=hb.cell 4 _ rfl
 have f4:=hb.frz 4
 have e5:=hb.cell 5 _ rfl
 have f5:=hb.frz 5
 have e6:=hb.cell 6 _ rfl
 have f6:=hb.frz 6
 have e7:=hb.cell 7 _ rfl
 have f7:=hb.frz 7
 have e8:=hb.cell 8 _ rfl
 have f8:=hb.frz 8
 have e9:=hb.cell 9 _ rfl
 have f9:=hb.frz 9
 unfold setAll at hK
 clear hb
 go_simp
 exact hK
theorem len6 {x:List Value} (h:x.length=6):∃x0 x1 x2 x3 x4 x5,x = [x0,x1,x2,x3,x4,x5]:=by
 match x,h with
 | [x0,x1,x2,x3,x4,x5],_=>exact ⟨x0,x1,x2,x3,x4,x5,rfl⟩
theorem len7 {x:List Value} (h:x.length=7):∃x0 x1 x2 x3 x4 x5 x6,x = [x0,x1,x2,x3,x4,x5,x6]:=by
 match x,h with
 | [x0,x1,x2,x3,x4,x5,x6],_=>exact ⟨x0,x1,x2,x3,x4,x5,x6,rfl⟩
end Rep
end Go.Proofs.YtlcpagiljfpbpaaGreatDoor

namespace Go.Proofs.YtlcpagiljfpbpaaGreatDoor
open Go.RowKit Rep Enc Go.Lib
set_option linter.unusedVariables false
namespace Rep
def sLong (s:ByteArray):Stab:=⟨fun v w=>∃g1 g2,v=.agg #[.slice none 0 0,.slice none 0 0,.slice none 0 0,.slice none 0 0,.slice (some ⟨g1,0,none⟩) 1 1,.slice none 0 0,.slice none 0 0,.slice none 0 0,.slice none 0 0,.slice (some ⟨g2,0,none⟩) 1 1]/\Bx w g1 50 #[.int .i64 1,.int .i64 0,.bool false]/\Bx w g2 55 #[.int .i64 65,.int .i64 0,.int .i64 0,.int .i64 0,.slice none 0 0,.slice none 0 0,.slice none 0 0,.string s],fun v w w' ⟨g1,g2,h,h1,h2⟩ hb=>⟨g1,g2,h,by have h3:w.heap[g1]?=some (.cells _ _ (0,0)):=h1;show w'.heap[g1]?=_;rw [hb.block g1 (Array.getElem?_eq_some_iff.1 h3).1];exact h3,by have h3:w.heap[g2]?=some (.cells _ _ (0,0)):=h2;show w'.heap[g2]?=_;rw [hb.block g2 (Array.getElem?_eq_some_iff.1 h3).1];exact h3⟩⟩
def TL (n:Nat) (s:ByteArray):Nat->Stab
 | 0=>sEq (.agg #[.int .i64 1,.int .i64 0,.bool false])
 | 1=>sBx 50 #[.int .i64 1,.int .i64 0,.bool false]
 | 2=>sEq (.agg #[.int .i64 65,.int .i64 0,.int .i64 0,.int .i64 0,.slice none 0 0,.slice none 0 0,.slice none 0 0])
 | 3=>sEq (.int .i64 (n:Nat))
 | 4=>sZs n
 | 5=>sEq (.string s)
 | 6=>sEq (.agg #[.int .i64 65,.int .i64 0,.int .i64 0,.int .i64 0,.slice none 0 0,.slice none 0 0,.slice none 0 0,.string s])
 | 7=>sBx 55 #[.int .i64 65,.int .i64 0,.int .i64 0,.int .i64 0,.slice none 0 0,.slice none 0 0,.slice none 0 0,.string s]
 | 8=>sLong s
 | _=>sEq undef
theorem clen9 {x:List Value} (h:x.length=9):∃x0 x1 x2 x3 x4 x5 x6 x7 x8,x = [x0,x1,x2,x3,x4,x5,x6,x7,x8]:=by
 match x,h with
 | [x0,x1,x2,x3,x4,x5,x6,x7,x8],_=>exact ⟨x0,x1,x2,x3,x4,x5,x6,x7,x8,rfl⟩
end Rep
theorem u8Inf:(Tryz.prog.info? 5).map (fun i=>(i.zero,i.size,i.bytes))=some (some (.int .u8 0),1,1):=by kernel_rfl
set_option maxRecDepth 100000 in
set_option maxHeartbeats 8000000 in
theorem longC {I:World->Prop} (C:WastC I) (n:Int) (w:World) (hI:I w) :
  Calls Tryz.prog 5 #[.int .i64 n] w fun e w'=>e=.returned (.bool true)/\Below w.heap.size w w':=by
 have HI:=hideR hI
 by_cases h:n<0\/300000<n
 ·have HW:=hideR (pWake C w hI)
  clear hI
  rcases h with h|h
  ·have t1:decide (n<0)=true:=decide_eq_true h
   go_enter Tryz.func5,Tryz.ntmps5
   go_wp2_with fail
   refine HW.out.mono ?_
   rintro e u3 ⟨rfl,hb3⟩
   have HB3:=hideR hb3
   clear hb3
   go_wp2
   go_ret
   exact ⟨rfl,HB3.out⟩
  ·have t1:decide (n<0)=false:=decide_eq_false (by omega)
   have t2:decide (300000<n)=true:=decide_eq_true h
   go_enter Tryz.func5,Tryz.ntmps5
   go_wp2_with fail
   refine HW.out.mono ?_
   rintro e u3 ⟨rfl,hb3⟩
   have HB3:=hideR hb3
   clear hb3
   go_wp2
   go_ret
   exact ⟨rfl,HB3.out⟩
 ·obtain ⟨N,rfl⟩:∃N:Nat,n=N:=⟨n.toNat,by omega⟩
  have hN:N<=300000:=by omega
  have t1:decide ((N:Int)<0)=false:=decide_eq_false (by omega)
  have t2:decide (300000<(N:Int))=false:=decide_eq_false (by omega)
  have HN:=hideR hN
  clear h hI hN
  go_enter Tryz.func5,Tryz.ntmps5
  go_upto_region 3 with fail
  clear t1 t2
  refine Reg.wp_region_seq 9 (fun i=>15+i) (fun i=>(TL N (zs N) i).1) ?hn (fun i j h1 h2 h=>by have h':15+i=15+j:=h;omega) (Reg.dst_ok (size:=72) (by kernel_rfl)) (fun i v w w' _ h hb=>(TL N (zs N) i).2 v w w' h hb) ?hstep ?htail
  case hn=>simp
  case hstep =>
   intro i o a w2 hi ho hF hB hd
   have f0:a.tmps[0]?.getD undef=.int .i64 (N:Nat):=Reg.ev_get (hF.eval 0 (fun i hi=>by show 15+i≠0;omega))
   have hcase:i=0\/i=1\/i=2\/i=3\/i=4\/i=5\/i=6\/i=7\/i=8:=by omega
   clear hi
   rcases hcase with rfl|rfl|rfl|rfl|rfl|rfl|rfl|rfl|rfl
   all_goals (simp only [List.getElem?_toArray,List.getElem?_cons_succ,List.getElem?_cons_zero,Option.some.injEq] at ho;subst ho)
   ·refine Reg.step_k fun K hK=>?_
    go_simp
    exact hK _ _ ⟨_,rfl,Below.refl _ _,rfl⟩
   ·have q0:a.tmps[15]?.getD undef=.agg #[.int .i64 1,.int .i64 0,.bool false]:=Reg.ev_get (hd 0 (by decide))
    refine Reg.step_k fun K hK=>?_
    go_simp
    exact hK _ _ ⟨_,rfl,new_on' _ _,⟨_,rfl,Bx.new rfl⟩⟩
   ·refine Reg.step_k fun K hK=>?_
    go_simp
    exact hK _ _ ⟨_,rfl,Below.refl _ _,rfl⟩
   ·refine Reg.step_k fun K hK=>?_
    go_simp
    exact hK _ _ ⟨_,rfl,Below.refl _ _,rfl⟩
   ·have q0:a.tmps[18]?.getD undef=.int .i64 (N:Nat):=Reg.ev_get (hd 3 (by decide))
    have hN:=HN.out
    obtain ⟨i0,hi,hz0,hz1,hz2⟩:=info_parts u8Inf
    have hmk:=run_makeSlice (P:=Tryz.prog) w2 53 5 i0 _ Tryz.underlying53 hi hz0 .i64 .i64 (N:Int) (N:Int) (by omega) (by omega) (by rw [hz1];omega) (by rw [hz2];omega) (by omega)
    rw [Int.toNat_natCast,hz1] at hmk
    refine Reg.step_k fun K hK=>?_
    go_simp
    exact hK _ _ ⟨_,rfl,new_on' _ _,⟨_,rfl,fun i hi=>by
     rw [World.cell?_alloc_at _ _ _ _ rfl]
     have e:(madeCells #[Value.int .u8 0] N).toList=List.replicate N (.int .u8 0):=toList_madeCells_one _ _
     rw [<- Array.getElem?_toList,e,List.getElem?_replicate,if_pos (by omega)]⟩⟩
   ·obtain ⟨g,hv,hz⟩:=(show (sZs N).1 (a.eval (.tmp 19)) w2 from hd 4 (by decide))
    have q0:=Reg.ev_get hv
    have hcv:=run_convert_bytes_arg (P:=Tryz.prog) w2 53 5 Tryz.underlying53 Tryz.underlying5 g 0 N N (List.replicate N 0) (by simp) (fun i hi=>by
     rw [Nat.zero_add,hz i hi,List.getD_eq_getElem?_getD,List.getElem?_replicate,if_pos hi];rfl) 9 Tryz.underlying9
    refine Reg.step_k fun K hK=>?_
    go_simp
    exact hK _ _ ⟨_,rfl,Below.refl _ _,rfl⟩
   ·have q0:a.tmps[17]?.getD undef=.agg #[.int .i64 65,.int .i64 0,.int .i64 0,.int .i64 0,.slice none 0 0,.slice none 0 0,.slice none 0 0]:=Reg.ev_get (hd 2 (by decide))
    have q1:a.tmps[20]?.getD undef=.string (zs N):=Reg.ev_get (hd 5 (by decide))
    generalize zs N=S at *
    refine Reg.step_k fun K hK=>?_
    go_simp
    exact hK _ _ ⟨_,rfl,Below.refl _ _,rfl⟩
   ·have q0:a.tmps[21]?.getD undef=.agg #[.int .i64 65,.int .i64 0,.int .i64 0,.int .i64 0,.slice none 0 0,.slice none 0 0,.slice none 0 0,.string (zs N)]:=Reg.ev_get (hd 6 (by decide))
    generalize zs N=S at *
    refine Reg.step_k fun K hK=>?_
    go_simp
    exact hK _ _ ⟨_,rfl,new_on' _ _,⟨_,rfl,Bx.new rfl⟩⟩
   ·obtain ⟨g1,hv1,hx1⟩:=(show (sBx 50 #[.int .i64 1,.int .i64 0,.bool false]).1 (a.eval (.tmp 16)) w2 from hd 1 (by decide))
    obtain ⟨g2,hv2,hx2⟩:=(show (sBx 55 #[.int .i64 65,.int .i64 0,.int .i64 0,.int .i64 0,.slice none 0 0,.slice none 0 0,.slice none 0 0,.string (zs N)]).1 (a.eval (.tmp 22)) w2 from hd 7 (by decide))
    have q0:=Reg.ev_get hv1
    have q1:=Reg.ev_get hv2
    have HX1:=hideR hx1
    have HX2:=hideR hx2
    clear hv1 hv2 hx1 hx2
    refine Reg.step_k fun K hK=>?_
    go_simp
    exact hK _ _ ⟨_,rfl,Below.refl _ _,⟨g1,g2,rfl,HX1.out,HX2.out⟩⟩
  case htail =>
   intro a w3 hF hB hG
   obtain ⟨g1,g2,h8,hx1,hx2⟩:=(show (sLong (zs N)).1 (a.eval (.tmp 23)) w3 from hG 8 (by omega))
   have has:a.tmps.size=72:=hF.size
   have hZ:BlkM (w3.alloc (.cells #[.slice none 0 0,.slice none 0 0,.slice none 0 0,.slice none 0 0,.slice none 0 0,.slice none 0 0,.slice none 0 0,.slice none 0 0,.slice none 0 0,.slice none 0 0] 32)) w3.heap.size (.slice none 0 0) (.slice none 0 0) (.slice none 0 0) (.slice none 0 0) (.slice none 0 0) (.slice none 0 0) (.slice none 0 0) (.slice none 0 0) (.slice none 0 0) (.slice none 0 0):=BlkM.new rfl
   have hbx:Below w3.heap.size w3 (setAll (w3.alloc (.cells #[.slice none 0 0,.slice none 0 0,.slice none 0 0,.slice none 0 0,.slice none 0 0,.slice none 0 0,.slice none 0 0,.slice none 0 0,.slice none 0 0,.slice none 0 0] 32)) w3.heap.size (.slice none 0 0) (.slice none 0 0) (.slice none 0 0) (.slice none 0 0) (.slice (some ⟨g1,0,none⟩) 1 1) (.slice none 0 0) (.slice none 0 0) (.slice none 0 0) (.slice none 0 0) (.slice (some ⟨g2,0,none⟩) 1 1)):=setAll_below (new_on' _ _) (Nat.le_refl _) (.slice none 0 0) (.slice none 0 0) (.slice none 0 0) (.slice none 0 0) (.slice (some ⟨g1,0,none⟩) 1 1) (.slice none 0 0) (.slice none 0 0) (.slice none 0 0) (.slice none 0 0) (.slice (some ⟨g2,0,none⟩) 1 1)
   have HBG:=hideR (hZ.all (.slice none 0 0) (.slice none 0 0) (.slice none 0 0) (.slice none 0 0) (.slice (some ⟨g1,0,none⟩) 1 1) (.slice none 0 0) (.slice none 0 0) (.slice none 0 0) (.slice none 0 0) (.slice (some ⟨g2,0,none⟩) 1 1))
   have HMI:=hideR ((long_at hx1 hx2).on hbx)
   have HBX:=hideR (below_go' hB hbx)
   have p3:=Reg.put_eval_same (a:=a) (k:=3) (.pointer (some ⟨w3.heap.size,0,none⟩)) (by rw [has];decide)
   have p8:=(Reg.put_eval_ne (a:=a) (k:=3) (j:=23) (.pointer (some ⟨w3.heap.size,0,none⟩)) (by decide)).trans h8
   obtain ⟨xl,hxl,ha,hev⟩:=hF.lit (by simp)
   obtain ⟨x0,x1,x2,x3,x4,x5,x6,x7,x8,rfl⟩:=clen9 hxl
   have HA:=hideR ha
   clear hbx h8 hG hev hxl has ha hx1 hx2
   simp only [List.drop_succ_cons,List.drop_zero]
   refine wpList_plain rfl fun K hK2=>?_
   go_simp
   refine hK2 _ _ ?_
   refine wpList_plain rfl fun K2 hK3=>?_
   refine store10 (a:=a.put (some 3) (.pointer (some ⟨w3.heap.size,0,none⟩))) (Reg.ev_get p3) (Reg.ev_get p8) hZ ?_
   refine hK3 _ _ (wpList_nil ?_)
   clear hK2 hK3 hZ p3 p8 hF
   generalize setAll (w3.alloc (.cells #[.slice none 0 0,.slice none 0 0,.slice none 0 0,.slice none 0 0,.slice none 0 0,.slice none 0 0,.slice none 0 0,.slice none 0 0,.slice none 0 0,.slice none 0 0] 32)) w3.heap.size (.slice none 0 0) (.slice none 0 0) (.slice none 0 0) (.slice none 0 0) (.slice (some ⟨g1,0,none⟩) 1 1) (.slice none 0 0) (.slice none 0 0) (.slice none 0 0) (.slice none 0 0) (.slice (some ⟨g2,0,none⟩) 1 1)=w4 at *
   generalize w3.heap.size=g at *
   have ha:=HA.out
   clear HA
   subst ha
   clear hB
   simp only [Act.put,List.setIfInBounds_toArray,List.set_cons_succ,List.set_cons_zero,List.take_succ_cons,List.take_zero,List.drop_succ_cons,List.drop_zero,List.cons_append,List.nil_append]
   have HI4:=hideR (C.keep HBX.out HI.out)
   have HSZ:Hid ((zs N).size=N):=hideR (zs_size N)
   obtain ⟨S,E,hSE,hE3,hE0⟩:=long_ans (zs N)
   have HSE:=hideR hSE
   rw [HSZ.out] at hE3 hE0
   have HE3:=hideR hE3
   have HE0:=hideR hE0
   have HTX:Hid (Texts (longM (zs N))):=hideR (long_ok (g1:=g1) (zs N) (by rw [HSZ.out];exact HN.out)).texts
   have HE1:=hideR (pEncode C 1 _ _ _ _ _ _ _ _ _ _ (longM (zs N)) w4 HI4.out HMI.out (long_ok (zs N) (by rw [HSZ.out];exact HN.out)) (fun h=>wr_of h (longM_NR _)))
   rw [HSE.out] at HE1
   clear hSE hE3 hE0
   have d0:=HBG.out.cell 0 _ rfl
   have d1:=HBG.out.cell 1 _ rfl
   have d2:=HBG.out.cell 2 _ rfl
   have d3:=HBG.out.cell 3 _ rfl
   have d4:=HBG.out.cell 4 _ rfl
   have d5:=HBG.out.cell 5 _ rfl
   have d6:=HBG.out.cell 6 _ rfl
   have d7:=HBG.out.cell 7 _ rfl
   have d8:=HBG.out.cell 8 _ rfl
   have d9:=HBG.out.cell 9 _ rfl
   go_wp2_with fail
   refine HE1.out.mono ?_
   rintro e w5 ⟨rfl,hb5⟩
   have HB5:=hideR hb5
   clear hb5 HE1 d0 d1 d2 d3 d4 d5 d6 d7 d8 d9
   have HE2:=hideR (dEncode 1 _ _ _ _ _ _ _ _ _ _ (longM (zs N)) w5 (HMI.out.on HB5.out) HTX.out (fun y hy=>by rw [List.mem_singleton.1 hy];show (zs N).size<=_;rw [HSZ.out];have:=HN.out;omega) (fun h=>wr_of h (longM_NR _)))
   rw [HSE.out] at HE2
   have d0:=(HBG.out.on HB5.out).cell 0 _ rfl
   have d1:=(HBG.out.on HB5.out).cell 1 _ rfl
   have d2:=(HBG.out.on HB5.out).cell 2 _ rfl
   have d3:=(HBG.out.on HB5.out).cell 3 _ rfl
   have d4:=(HBG.out.on HB5.out).cell 4 _ rfl
   have d5:=(HBG.out.on HB5.out).cell 5 _ rfl
   have d6:=(HBG.out.on HB5.out).cell 6 _ rfl
   have d7:=(HBG.out.on HB5.out).cell 7 _ rfl
   have d8:=(HBG.out.on HB5.out).cell 8 _ rfl
   have d9:=(HBG.out.on HB5.out).cell 9 _ rfl
   go_wp2_with fail
   refine HE2.out.mono ?_
   rintro e w6 ⟨rfl,hb6⟩
   have HB6:=hideR (HB5.out.trans (hb6.mono HB5.out.size))
   clear hb6 HE2 HB5 d0 d1 d2 d3 d4 d5 d6 d7 d8 d9
   have HW:=hideR (pWake C w6 (C.keep HB6.out HI4.out))
   have HBE:∀w8,Below w6.heap.size w6 w8->Hid (Below w.heap.size w w8):=fun w8 hb8=>hideR (below_go' HBX.out (HB6.out.trans (hb8.mono HB6.out.size)))
   clear HMI HBG HBX HB6 HI4 HSE HTX HSZ
   have END:True:=trivial
   by_cases h1:262144<N
   ·obtain rfl:E=3:=HE3.out h1
    have t1:decide ((262144:Int)<(N:Int))=true:=decide_eq_true (by omega)
    have t2:decide ((N:Int)<262044)=false:=decide_eq_false (by omega)
    clear HE3 HE0 END
    go_wp2_with fail
    refine HW.out.mono ?_
    rintro e w8 ⟨rfl,hb8⟩
    have HB8:=HBE w8 hb8
    clear hb8 HW HBE
    go_wp2
    go_ret
    exact ⟨rfl,HB8.out⟩
   ·have t1:decide ((262144:Int)<(N:Int))=false:=decide_eq_false (by omega)
    by_cases h2:N<262044
    ·obtain ⟨rfl,hs1,hs2⟩:=HE0.out h2
     have t2:decide ((N:Int)<262044)=true:=decide_eq_true (by omega)
     have t3:decide ((S.size:Int)<=(N:Int))=false:=decide_eq_false (by omega)
     obtain ⟨M,hM⟩:∃M:Int,M=(N:Int)+40:=⟨_,rfl⟩
     have t4:IntKind.i64.wrap ((N:Int)+40)=M:=by rw [IntKind.wrap_i64];omega
     have t5:decide (M<(S.size:Int))=false:=decide_eq_false (by omega)
     clear hM
     clear HE3 HE0 END hs1 hs2 h1 h2 HN
     generalize (N:Int)=KN at *
     go_wp2_with fail
     refine HW.out.mono ?_
     rintro e w8 ⟨rfl,hb8⟩
     have HB8:=HBE w8 hb8
     clear hb8 HW HBE
     go_wp2
     go_ret
     exact ⟨rfl,HB8.out⟩
    ·have t2:decide ((N:Int)<262044)=false:=decide_eq_false (by omega)
     clear HE3 HE0 END h1 h2
     go_wp2_with fail
     refine HW.out.mono ?_
     rintro e w8 ⟨rfl,hb8⟩
     have HB8:=HBE w8 hb8
     clear hb8 HW HBE
     go_wp2
     go_ret
     exact ⟨rfl,HB8.out⟩
end Go.Proofs.YtlcpagiljfpbpaaGreatDoor

