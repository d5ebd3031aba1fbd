/- Texts that the claim needs. -/
import Derived.Test.YtiailkiepndliaaGreatDoorQDWi32
import Derived.Shelf.Spec.SlicesGrow
import Derived.Laws.AppendOwn
import Derived.Laws.AppendOwnNone
import Derived.OwnWalk
import Derived.Test.YtiailkiepndliaaGreatDoorQDWi34
import Derived.Test.YtiailkiepndliaaGreatDoorQDWi9
import Derived.Test.YtiailkiepndliaaGreatDoorQDWi6
import Derived.Test.YtiailkiepndliaaGreatDoorQDWi31
import Derived.Lib.SlBytesConst
import Derived.Laws.EntriesVeiled
import Derived.Test.YtiailkiepndliaaGreatDoorQDWi21
import Derived.Test.YtiailkiepndliaaGreatDoorQDWi25
import Derived.Test.YtiailkiepndliaaGreatDoorQDWi26
namespace Go.Proofs
open Go.RowKit Go.Shelf Go.Lib
shelf_lay_g Lays8.n4 Nm8 4 at Tryz 76 as Tryz.growL
namespace YtiailkiepndliaaGreatDoor
open Go.RowKit Rep
namespace Rep
def limCells:List Lim->List Value
 | []=>[]
 | x :: r=>.int .i64 x.min :: .int .i64 x.max :: .bool x.has :: limCells r
theorem limCells_len:∀l:List Lim,(limCells l).length=l.length*3
 | []=>rfl
 | x :: r=>by show (limCells r).length+1+1+1=(r.length+1)*3;rw [limCells_len r];omega
theorem limCells_app:∀a b:List Lim,limCells (a++b)=limCells a++limCells b
 | [],_=>rfl
 | x :: r,b=>by show _ :: _ :: _ :: limCells (r++b)=_;rw [limCells_app r b];rfl
theorem limCells_one:∀(l:List Lim) (u:Value),u ∈ limCells l->u.oneCell'=true
 | [],_,h=>by cases h
 | x :: r,u,h=>by
  simp only [limCells,List.mem_cons] at h
  rcases h with rfl|rfl|rfl|h
  ·rfl
  ·rfl
  ·rfl
  ·exact limCells_one r u h
theorem limCells_get:∀(l:List Lim) (i:Nat) (x:Lim),l[i]?=some x->(limCells l)[i*3]?=some (.int .i64 x.min)/\(limCells l)[i*3+1]?=some (.int .i64 x.max)/\(limCells l)[i*3+2]?=some (.bool x.has)
 | [],_,_,h=>by simp at h
 | y :: r,0,x,h=>by
  simp at h;subst h;exact ⟨rfl,rfl,rfl⟩
 | y :: r,i+1,x,h=>by
  have h':r[i]?=some x:=by simpa using h
  have:=limCells_get r i x h'
  have e:(i+1)*3=i*3+1+1+1:=by omega
  rw [e]
  simpa [limCells] using this
theorem limCells_at {w:World} {b off:Nat}:∀(l:List Lim) (o:Nat),(∀(i:Nat) (x:Lim),l[i]?=some x->LimAt w b (o+i*3) x)->∀j u,(limCells l)[j]?=some u->w.cell? ⟨b,o+j,none⟩=some u
 | [],_,_,_,_,h=>by simp [limCells] at h
 | x :: r,o,hx,j,u,h=>by
  have h0:=hx 0 x rfl
  match j,h with
  | 0,h=>simp [limCells] at h;subst h;simpa using h0.min
  | 1,h=>simp [limCells] at h;subst h;simpa using h0.max
  | 2,h=>simp [limCells] at h;subst h;simpa using h0.has
  | j+3,h =>
   have h':(limCells r)[j]?=some u:=by simpa [limCells] using h
   have:=limCells_at (b:=b) (off:=off) r (o+3) (fun i y hy=>by
    have:=hx (i+1) y (by simpa using hy)
    rw [show o+3+i*3=o+(i+1)*3 by omega];exact this) j u h'
   rw [show o+(j+3)=o+3+j by omega];exact this
end Rep
end YtiailkiepndliaaGreatDoor
end Go.Proofs

namespace Go.Proofs.YtiailkiepndliaaGreatDoor
open Go.RowKit Go.Shelf Rep
set_option linter.unusedVariables false
namespace Rep
def upto (L3 L4:List Lim) (j:Nat):List Lim:=if j=0 then [] else if j=1 then L3 else L3++L4
theorem below_grown {B:Nat} {a w w':World} {v:Value} {n e:Nat} {xs:List Value} (h:Below B a w) (hown:w.ownsRow B e 3 v n xs) (hg:w.grownBy w' v.ownBlock) (hB:B<=w.heap.size):Below B a w' :=
 h.grown hg hB fun k hk=>(hown.lt k hk).1
theorem addr_eq (g k o:Nat) (h:o=0+k):(⟨g,o,none⟩:Addr)=(⟨g,0,none⟩:Addr).add k:=by
 subst h
 by_cases hk:k=0
 ·subst hk;rfl
 ·simp [Addr.add,hk]
theorem addr_eq' (g o k:Nat):(⟨g,o,none⟩:Addr).add k=⟨g,o+k,none⟩:=by
 by_cases hk:k=0
 ·subst hk;rfl
 ·simp [Addr.add,hk]
theorem row_none {w:World} {n c:Nat} {L:List Lim} (h:Row 3 (LimAt w) (.slice none n c) L):L = []:=by
 rcases h.2 with ⟨h,_⟩|⟨_,_,_,h,_⟩
 ·exact h
 ·injection h with h;cases h
theorem row_at {w:World} {ad:Addr} {n c:Nat} {L:List Lim} (h:Row 3 (LimAt w) (.slice (some ad) n c) L):∀jx ux,(limCells L)[jx]?=some ux->w.cell? (ad.add jx)=some ux:=by
 intro jx ux hx
 rcases h.2 with ⟨h,_⟩|⟨bb,oo,cc,h,hcell⟩
 ·rw [h] at hx;simp [limCells] at hx
 ·injection h with h1;injection h1 with h1;subst h1
  have:=limCells_at (off:=0) L oo hcell jx ux hx
  rw [addr_eq' bb oo jx];exact this
theorem own_row {w:World} {B e:Nat} {v:Value} {l:List Lim} (h:w.ownsRow B e 3 v l.length (limCells l)) (hl:l.length<=9223372036854775807):∃o c,v=.slice o l.length c/\Row 3 (LimAt w) (.slice o l.length c) l:=by
 rcases h.2 with ⟨rfl,h0⟩|⟨g,cap,cur,rfl,_⟩
 ·obtain rfl:l = []:=List.length_eq_zero_iff.1 h0
  exact ⟨none,0,rfl,hl,.inl ⟨rfl,none,0,rfl⟩⟩
 ·refine ⟨some ⟨g,0,none⟩,cap,rfl,hl,.inr ⟨g,0,cap,rfl,fun i x hi=>?_⟩⟩
  have hc:=h.cells (g:=g) rfl
  have hg:=limCells_get l i x hi
  refine ⟨?_,?_,?_⟩
  ·rw [addr_eq g (i*3) (0+i*3) rfl];exact hc _ _ hg.1
  ·rw [addr_eq g (i*3+1) (0+i*3+1) (by omega)];exact hc _ _ hg.2.1
  ·rw [addr_eq g (i*3+2) (0+i*3+2) (by omega)];exact hc _ _ hg.2.2
end Rep
theorem limInfo:(Tryz.prog.info? 92).map (fun i=>(i.zero,i.size,i.bytes))=some (some (.agg #[.int .i64 0,.int .i64 0,.bool false]),3,24):=by kernel_rfl
theorem pGrow (n:Nat) (h:n<=8192) (w:World):Calls Tryz.prog 76 #[.slice none 0 0,.int .i64 n] w fun e w' =>
  ∃v,e=.returned v/\w'.ownsRow w.heap.size 92 3 v 0 []/\Below w.heap.size w w':=by
 by_cases h0:n=0
 ·subst h0
  refine (Any8.slices_Grow_room Tryz.growL none 0 0 0 w (by omega) (by omega) (by omega) (by omega)).mono ?_
  rintro e w' ⟨rfl,rfl⟩
  exact ⟨_,rfl,World.ownsRow_nil _ _ _ _,Below.refl _ _⟩
 ·obtain ⟨i0,hi,hz,hs,hby⟩:=info_parts limInfo
  refine (Any8.slices_Grow_grow Tryz.growL i0 _ hi hz (by omega) none 0 0 n [] w (by omega) (by omega) (by rw [hby];omega) (by omega) (by simp) (fun _=>rfl) (fun a ha=>by cases ha)).mono ?_
  rintro e w' ⟨rfl,rfl⟩
  have hge:=grownCap_ge w (0+n) 0 92
  have hle:=grownCap_le_maxLen w (0+n) 0 92 (by unfold maxLen;omega)
  refine ⟨_,rfl,World.ownsRow_made w.drew _ _ (Nat.le_refl _) hle ?_,(Below.refl _ w).drew.alloc (Nat.le_refl _) _⟩
  simp only [Array.size_append,size_zeroCells]
  show 0+(0+n-0)*3+(grownCap w (0+n) 0 92-(0+n))*3=grownCap w (0+n) 0 92*3
  omega
set_option maxHeartbeats 2000000 in
theorem pConcat (L3 L4:List Lim) (o3 o4:Option Addr) (c3 c4:Nat) (u:World) (b:Nat) (h3:Row 3 (LimAt u) (.slice o3 L3.length c3) L3) (h4:Row 3 (LimAt u) (.slice o4 L4.length c4) L4)
  (z3:o3=none->c3=0) (z4:o4=none->c4=0) (k0:u.cell? ⟨b,0,none⟩=some (.slice o3 L3.length c3)) (k1:u.cell? ⟨b,1,none⟩=some (.slice o4 L4.length c4)) (b3:L3.length<=4096) (b4:L4.length<=4096) :
  Calls Tryz.prog 48 #[.slice (some ⟨b,0,none⟩) 2 2] u fun e u' =>
   (∃o c,e=.returned (.slice o (L3++L4).length c)/\Row 3 (LimAt u') (.slice o (L3++L4).length c) (L3++L4))/\Below u.heap.size u u':=by
 have H3:=hideM h3
 have H4:=hideM h4
 clear h3 h4
 generalize hn3:L3.length=n3 at *
 generalize hn4:L4.length=n4 at *
 go_enter Tryz.func48,Tryz.ntmps48
 go_wp2_with fail
 go_loopw [3,11] (fun t i wr=>∃j:Nat,j<=2/\i=.int .i64 j/\t=.int .i64 ((if j=0 then 0 else if j=1 then n3 else n3+n4:Nat):Int)/\wr=u) (fun _ i _=>2-(RowKit.intOf i).toNat)
 case atStart=>exact ⟨0,by omega,rfl,rfl,rfl⟩
 case round =>
  obtain ⟨j,hj,rfl,rfl,rfl⟩:=hrel
  rcases (by omega:j=0\/j=1\/j=2) with rfl|rfl|rfl
  ·go_wp2
   go_roundw
   case rel=>exact ⟨1,by omega,by go_num,by go_num,trivial⟩
   case measure=>simp [RowKit.intOf]
  ·go_wp2
   go_roundw
   case rel=>exact ⟨2,by omega,by go_num,by go_num,trivial⟩
   case measure=>simp [RowKit.intOf]
  ·go_wp2_with fail
   have HG:=hideM (pGrow (n3+n4) (by omega) wr)
   rw [show (((n3+n4:Nat)):Int)=(n3:Int)+(n4:Int) by omega] at HG
   refine HG.out.mono ?_
   rintro e wg ⟨vg,rfl,hown,hbel⟩
   have HO:Hid (wg.ownsRow wr.heap.size 92 3 vg (upto L3 L4 0).length (limCells (upto L3 L4 0))):=hown
   have HB:=hideM hbel
   clear HG hown hbel
   obtain ⟨ws,rfl⟩:∃ws,ws=wr:=⟨_,rfl⟩
   go_wp2_with fail
   go_loopw [6,27] (fun t i wr=>∃j:Nat,j<=2/\i=.int .i64 j/\Hid (wr.ownsRow ws.heap.size 92 3 t (upto L3 L4 j).length (limCells (upto L3 L4 j)))/\Hid (Below ws.heap.size ws wr)) (fun _ i _=>2-(RowKit.intOf i).toNat)
   case atStart=>exact ⟨0,by omega,rfl,HO,HB⟩
   case round =>
    obtain ⟨j,hj,rfl,HOW,HBW⟩:=hrel
    rcases (by omega:j=0\/j=1\/j=2) with rfl|rfl|rfl
    ·have q0:wr.cell? ⟨b,0,none⟩=some (.slice o3 n3 c3):=cell_on HBW.out k0
     obtain ⟨i0,hi,hz0,hz1,hz2⟩:=info_parts limInfo
     have hsz:=HBW.out.size
     have hul:(upto L3 L4 0).length<=8192:=by show 0<=_;omega
     have hup:Hid (upto L3 L4 1=upto L3 L4 0++L3):=rfl
     have hnl:Hid (L3.length=n3):=hn3
     have HRW:=hideM (H3.out.imp fun _ _ _ _=>LimAt.on HBW.out)
     cases o3 with
     | none =>
      obtain rfl:c3=0:=z3 rfl
      have hnil:L3 = []:=row_none HRW.out
      have hn0:n3=0:=by rw [<- hnl.out,hnil];rfl
      rw [hn0] at q0
      go_wp2_with (first|(at_builtin;refine wpList_append_own_none rfl _ _ 30 rfl ws.heap.size 92 i0 3 Tryz.underlying30 hi _ _ _ rfl HOW.out rfl ?_))
      go_wp2
      go_roundw
      case rel=>exact ⟨_,_,_,⟨1,by omega,rfl,HOW⟩,rfl,rfl,rfl⟩
      case measure=>simp [RowKit.intOf]
     | some ad =>
      have HAT:=hideM (row_at HRW.out)
      go_wp2_with (first|(at_builtin;refine wpList_append_own _ rfl _ _ 30 rfl ws.heap.size 92 i0 _ 3 24 Tryz.underlying30 hi hz0 hz1 hz2 rfl (by decide) _ _ _ rfl HOW.out ad n3 c3 (limCells L3) rfl ?c0 HAT.out ?c2 ?c3 ?c4 ?c5 ?_))
      case c0=>rw [limCells_len,hnl.out]
      case c2=>exact limCells_one L3
      case c3=>unfold maxLen;omega
      case c4=>omega
      case c5=>omega
      intro v' w1 hown' hgrow _
      have HB2:=hideM (below_grown HBW.out HOW.out hgrow (by omega))
      have HO2:Hid (w1.ownsRow ws.heap.size 92 3 v' (upto L3 L4 1).length (limCells (upto L3 L4 1))):=by
       rw [hup.out,limCells_app,List.length_append,hnl.out];exact hown'
      clear hown' hgrow
      go_wp2
      go_roundw
      case rel=>exact ⟨1,by omega,by go_num,HO2,HB2⟩
      case measure=>simp [RowKit.intOf]
    ·have q0:wr.cell? ⟨b,1,none⟩=some (.slice o4 n4 c4):=cell_on HBW.out k1
     obtain ⟨i0,hi,hz0,hz1,hz2⟩:=info_parts limInfo
     have hsz:=HBW.out.size
     have hul:(upto L3 L4 1).length<=8192:=by show L3.length<=_;omega
     have hup:Hid (upto L3 L4 2=upto L3 L4 1++L4):=rfl
     have hnl:Hid (L4.length=n4):=hn4
     have HRW:=hideM (H4.out.imp fun _ _ _ _=>LimAt.on HBW.out)
     cases o4 with
     | none =>
      obtain rfl:c4=0:=z4 rfl
      have hnil:L4 = []:=row_none HRW.out
      have hn0:n4=0:=by rw [<- hnl.out,hnil];rfl
      rw [hn0] at q0
      go_wp2_with (first|(at_builtin;refine wpList_append_own_none rfl _ _ 30 rfl ws.heap.size 92 i0 3 Tryz.underlying30 hi _ _ _ rfl HOW.out rfl ?_))
      go_wp2
      go_roundw
      case rel=>exact ⟨_,_,_,⟨2,by omega,rfl,by show Hid (World.ownsRow _ _ _ _ _ (L3++[]).length (limCells (L3++[])));rw [List.append_nil];exact HOW⟩,rfl,rfl,rfl⟩
      case measure=>simp [RowKit.intOf]
     | some ad =>
      have HAT:=hideM (row_at HRW.out)
      go_wp2_with (first|(at_builtin;refine wpList_append_own _ rfl _ _ 30 rfl ws.heap.size 92 i0 _ 3 24 Tryz.underlying30 hi hz0 hz1 hz2 rfl (by decide) _ _ _ rfl HOW.out ad n4 c4 (limCells L4) rfl ?c0 HAT.out ?c2 ?c3 ?c4 ?c5 ?_))
      case c0=>rw [limCells_len,hnl.out]
      case c2=>exact limCells_one L4
      case c3=>unfold maxLen;omega
      case c4=>omega
      case c5=>omega
      intro v' w1 hown' hgrow _
      have HB2:=hideM (below_grown HBW.out HOW.out hgrow (by omega))
      have HO2:Hid (w1.ownsRow ws.heap.size 92 3 v' (upto L3 L4 2).length (limCells (upto L3 L4 2))):=by
       rw [hup.out,limCells_app,List.length_append,hnl.out];exact hown'
      clear hown' hgrow
      go_wp2
      go_roundw
      case rel=>exact ⟨2,by omega,by go_num,HO2,HB2⟩
      case measure=>simp [RowKit.intOf]
    ·have hfin:=own_row (l:=L3++L4) HOW.out (by rw [List.length_append];omega)
     obtain ⟨of,cf,rfl,hrow⟩:=hfin
     have HRF:=hideM hrow
     clear hrow
     go_wp2
     go_ret
     exact ⟨⟨of,cf,rfl,HRF.out⟩,HBW.out⟩
end Go.Proofs.YtiailkiepndliaaGreatDoor

namespace Go.Proofs.YtiailkiepndliaaGreatDoor
open Go.RowKit Rep
set_option linter.unusedVariables false
namespace Rep
structure ModOk {d:Nat} (v3 v4:Value) (m:Mod d):Prop where
 deep:d<=4611686018427387904
 datas:∀x ∈ m.datas,x.bytes.size<=9223372036854775807
 texts:Texts m
 tables:∀n c,v3=.slice none n c->c=0
 mems:∀n c,v4=.slice none n c->c=0
theorem fewM_lens {d:Nat} {m:Mod d} (h:fewM m=true):m.tables.length<=4096/\m.mems.length<=4096:=by
 unfold fewM at h
 rw [Bool.and_eq_true] at h
 have h1:=List.all_eq_true.1 h.1
 have a:=h1 (len m.tables) (by simp)
 have b:=h1 (len m.mems) (by simp)
 have a:=of_decide_eq_true (p:=((m.tables.length:Int)<=4096)) a
 have b:=of_decide_eq_true (p:=((m.mems.length:Int)<=4096)) b
 omega
end Rep
theorem pCheckC {I:World->Prop} (C:WastC I) (d:Nat) (v0 v1 v2 v3 v4 v5 v6 v7 v8 v9:Value) (m:Mod d) (w:World) (hI:I w) (hM:ModAt w d v0 v1 v2 v3 v4 v5 v6 v7 v8 v9 m) (hO:ModOk v3 v4 m) :
  Calls Tryz.prog 12 #[.agg #[v0,v1,v2,v3,v4,v5,v6,v7,v8,v9]] w fun e w'=>e=.returned (.int .i64 (chk m))/\Below w.heap.size w w':=by
 refine pCheck C.toFormC d hO.deep v0 v1 v2 v3 v4 v5 v6 v7 v8 v9 m w hI hM hO.datas fun hf w' hb=>?_
 have hl:=fewM_lens hf
 have hM':=hM.on hb
 obtain ⟨o3,c3,e3⟩:=Row.len hM'.tables
 obtain ⟨o4,c4,e4⟩:=Row.len hM'.mems
 refine pneedShapes C d v0 v1 v2 v3 v4 v5 v6 v7 v8 v9 m w' (C.keep hb hI) hM' hO.texts fun u b hu k0 k1=>?_
 have hM2:=hM'.on hu
 have r3:=hM2.tables
 have r4:=hM2.mems
 rw [e3] at r3 k0
 rw [e4] at r4 k1
 refine pConcat m.tables m.mems o3 o4 c3 c4 u b r3 r4 (fun h=>?_) (fun h=>?_) k0 k1 hl.1 hl.2
 ·subst h;exact hO.tables _ _ e3
 ·subst h;exact hO.mems _ _ e4
theorem wastC {I:World->Prop} (C:ReckC I) (hU:∀w,I w->UtfI w):WastC I :=
 { toFormC:=formC C,name:=fun s w h hs=>pName s w hs (hU w h) }
theorem utfI_on {w w':World} (hb:Below w.heap.size w w') (h:UtfI w):UtfI w':=Utf8Tabs_below h hb
end Go.Proofs.YtiailkiepndliaaGreatDoor

namespace Go.Proofs.YtiailkiepndliaaGreatDoor
open Go.RowKit Rep Enc Go.Lib
set_option linter.unusedVariables false
namespace Enc
def bodyM {d:Nat} (l:IL d):Mod d:={ types:=[],imports:=[],funcs:=[{ type:=0,locals:=[],body:=l }],tables:=[],mems:=[],globals:=[],exports:=[],start:=[],elems:=[],datas:=[] }
def bodA {d:Nat} (l:IL d):Value:=if chk (bodyM l)=0 then told (bytesI d l++[11]) else .tuple #[.string ⟨#[]⟩,.int .i64 (chk (bodyM l))]
theorem row_nil {α:Type} {k:Nat} {f:Nat->Nat->α->Prop}:Row k f (.slice none 0 0) []:=⟨by simp,.inl ⟨rfl,none,0,rfl⟩⟩
theorem bodyM_at {d:Nat} {l:IL d} {lv:Value} {w w':World} {b:Nat} (hA:At w d lv l) (hb:Below w.heap.size w w') (hx:Bx w' b 26 #[.int .i64 0,.slice none 0 0,lv]) :
  ModAt w' d (.slice none 0 0) (.slice none 0 0) (.slice (some ⟨b,0,none⟩) 1 1) (.slice none 0 0) (.slice none 0 0) (.slice none 0 0) (.slice none 0 0) (.slice none 0 0) (.slice none 0 0) (.slice none 0 0) (bodyM l) :=
 ⟨row_nil,row_nil,⟨by show 1<=_;omega,.inr ⟨b,0,1,rfl,fun i x hi=>by
  match i,hi with
  | 0,hi =>
   obtain rfl:({ type:=0,locals:=[],body:=l }:Fun d)=x:=by simpa [bodyM] using hi
   exact ⟨hx.cell 0 _ rfl,⟨_,hx.cell 1 _ rfl,row_nil⟩,⟨_,hx.cell 2 _ rfl,At.on hb d _ _ hA⟩⟩
  | i+1,hi=>simp [bodyM] at hi⟩⟩,row_nil,row_nil,row_nil,row_nil,row_nil,row_nil,row_nil⟩
theorem bodyM_ok {d:Nat} (l:IL d) (hd:d<=4611686018427387904):ModOk (.slice none 0 0) (.slice none 0 0) (bodyM l) :=
 ⟨hd,fun x hx=>by simp [bodyM] at hx,⟨fun x hx=>by simp [bodyM] at hx,fun x hx=>by simp [bodyM] at hx⟩,fun n c h=>by injection h with _ _ h;exact h.symm,fun n c h=>by injection h with _ _ h;exact h.symm⟩
end Enc
set_option maxRecDepth 100000 in
set_option maxHeartbeats 4000000 in
theorem pBody {I:World->Prop} (C:WastC I) (d:Nat) (lv:Value) (l:IL d) (w:World) (hI:I w) (hA:At w d lv l) (hd:d<=4611686018427387904) (hR:chk (bodyM l)=0->Rg d l/\(bytesI d l).length<=38000000000000) :
  Calls Tryz.prog 6 #[lv] w fun e w'=>e=.returned (bodA l)/\Below w.heap.size w w':=by
 have hb:=new_on' w (.cells #[.int .i64 0,.slice none 0 0,lv] 26)
 have hx:=Bx.new (w:=w) (b:=w.heap.size) (t:=26) (cs:=#[.int .i64 0,.slice none 0 0,lv]) rfl
 have HC:=hideR (pCheckC C d _ _ _ _ _ _ _ _ _ _ (bodyM l) _ (C.keep hb hI) (bodyM_at hA hb hx) (bodyM_ok l hd))
 have HB:=hideR hb
 have HI:=hideR hI
 have HA:=hideR hA
 obtain ⟨oL,kL,rfl⟩:=At.len d _ _ hA
 have HR:=hideR hR
 unfold bodA
 clear hb hx hI hA hR
 generalize size d l=nl at *
 by_cases h0:chk (bodyM l)=0
 ·rw [if_pos h0]
  obtain ⟨hR1,hR2⟩:=HR.out h0
  rw [h0] at HC
  obtain ⟨S,E,hSE⟩:∃S E,told (bytesI d l++[11])=.tuple #[.string S,.int .i64 E]:=⟨_,_,told_eq _⟩
  rw [hSE]
  have HSE:=hideR hSE
  have HR1:=hideR hR1
  have HR2:=hideR hR2
  clear hSE hR1 hR2 HR
  go_enter Tryz.func6,Tryz.ntmps6
  go_wp2_with fail
  refine HC.out.mono ?_
  rintro e w1 ⟨rfl,hb1⟩
  have hb2:=HB.out.trans (hb1.mono HB.out.size)
  have HB2:=hideR hb2
  have HWS:Hid (WS w w1.heap.size (fun _=>.slice none 0 0) (.slice none 0 0) [] (w1.alloc (.cells #[.slice none 0 0,.slice none 0 0,.slice none 0 0,.slice none 0 0,.slice none 0 0,.slice none 0 0,.slice none 0 0,.slice none 0 0,.slice none 0 0,.slice none 0 0,.slice none 0 0] 63))):=hideR
   ⟨hb2.trans ((new_on' w1 _).mono hb2.size),hb2.size,heap_new w1 _,World.ownsRow_nil _ _ _ _,by simp [Value.ownBlock]⟩
  clear hb1 hb2 HC HB
  have HC:=hideR (wExpr C.toFormC w HI.out w1.heap.size _ d _ l _ [] _ HWS.out HA.out HR1.out (by have:=HR2.out;simp only [List.length_nil];omega))
  go_wp2_with fail
  refine HC.out.mono ?_
  rintro e w3 ⟨v3,b3,rfl,h3,k3,a3,l3⟩
  have ht:told b3=.tuple #[.string S,.int .i64 E]:=by rw [told_adds a3,List.nil_append];exact HSE.out
  have hl3:0<b3.length:=by
   rcases a3 with rfl|⟨h,_⟩
   ·simp
   ·omega
  have HC2:=hideR (wTold w w1.heap.size _ v3 b3 w3 h3 (by have:=HR2.out;simp only [List.length_append,List.length_cons,List.length_nil] at l3;omega) hl3)
  rw [ht] at HC2
  have HB3:=hideR h3.below
  clear HC h3 k3 a3 l3 ht hl3 HWS
  go_wp2_with fail
  refine HC2.out.mono ?_
  rintro e w4 ⟨rfl,rfl⟩
  go_wp2
  go_ret2
  exact ⟨rfl,HB3.out⟩
 ·rw [if_neg h0]
  clear HR
  generalize chk (bodyM l)=r at *
  go_enter Tryz.func6,Tryz.ntmps6
  go_wp2_with fail
  refine HC.out.mono ?_
  rintro e w1 ⟨rfl,hb1⟩
  have HB1:=hideR (HB.out.trans (hb1.mono HB.out.size))
  clear hb1 HB HC
  go_wp2
  go_ret2
  exact ⟨rfl,HB1.out⟩
end Go.Proofs.YtiailkiepndliaaGreatDoor

namespace Go.Proofs.YtiailkiepndliaaGreatDoor
open Go.RowKit Rep Enc Go.Lib
set_option linter.unusedVariables false
namespace Enc
theorem uB_five {n:Int} (h0:0<=n) (h:n<=4294967295):(Leb.uB n).length<=5:=by
 by_cases h1:n<128
 ·rw [Leb.uB_small h0 h1];simp
 rw [Leb.uB_great (by omega)]
 by_cases h2:n / 128<128
 ·rw [Leb.uB_small (by omega) h2];simp
 rw [Leb.uB_great (by omega)]
 by_cases h3:n / 128 / 128<128
 ·rw [Leb.uB_small (by omega) h3];simp
 rw [Leb.uB_great (by omega)]
 by_cases h4:n / 128 / 128 / 128<128
 ·rw [Leb.uB_small (by omega) h4];simp
 rw [Leb.uB_great (by omega),Leb.uB_small (n:=n / 128 / 128 / 128 / 128) (by omega) (by omega)];simp
theorem insB_five {α:Type} {rec:α->List Int} {sz:α->Nat} {P:α->Prop} {x:Ins α} (r:Rg1 P x):(insB rec sz x).length<=11+5*x.labels.length+(rec x.body).length+(rec x.els).length:=by
 unfold insB
 have ha:4<=form x.op->form x.op<=8->(Leb.uB x.a).length<=5:=fun h1 h2=>uB_five (r.a h1 h2).1 (r.a h1 h2).2
 have hb:form x.op=8->(Leb.uB x.b).length<=5:=fun h=>uB_five (r.b h).1 (r.b h).2
 have hn:form x.op=9->(Leb.sB x.n).length<=10:=fun h=>Leb.sB_ten (r.n h).1 (r.n h).2
 have hi:form x.op=5->(idxB x.labels).length<=5+5*x.labels.length:=fun h=>by
  have h1:=uB_five (n:=(x.labels.length:Int)) (by omega) (by have:=r.few;omega)
  have h2:=flat_le (f:=Leb.uB) 5 x.labels fun y hy=>uB_five (r.labels h y hy).1 (r.labels h y hy).2
  unfold idxB
  rw [List.length_append];omega
 rw [List.length_append]
 simp only [List.length_cons,List.length_nil]
 split
 ·split<;>simp<;>omega
 ·split
  ·simp only [List.length_append,List.length_cons,List.length_nil]
   have e1:(if x.a=0 then [64] else [x.a%256]:List Int).length=1:=by split<;>rfl
   have e2:(if 0<sz x.els then 5 :: ([]++rec x.els) else []:List Int).length<=1+(rec x.els).length:=by split<;>simp<;>omega
   have e3:(if 0<sz x.els then [5]++rec x.els else []:List Int).length<=1+(rec x.els).length:=by split<;>simp<;>omega
   omega
  ·split
   ·have:=ha (by omega) (by omega);omega
   ·split
    ·rw [List.length_append];have:=ha (by omega) (by omega);have:=hi (by omega);omega
    ·split
     ·rw [List.length_append];have:=ha (by omega) (by omega);simp only [List.length_cons,List.length_nil];omega
     ·split
      ·rw [List.length_append];have:=ha (by omega) (by omega);have:=hb (by omega);omega
      ·split
       ·have:=hn (by omega);omega
       ·simp;omega
theorem bytesI_wt:∀(d:Nat) (l:IL d),Rg d l->(bytesI d l).length<=wt d l*56
 | 0,_,_=>by show 0<=_;omega
 | d+1,l,hR=>by
  have key:∀(l:List (Ins (IL d))),(∀x ∈ l,Rg1 (Rg d) x)->(insL (bytesI d) (size d) l).length<=wtL (wt d) l*56:=by
   intro l
   induction l with
   | nil=>intro _;show 0<=_;omega
   | cons y r ih =>
    intro h
    have h1:=ih fun x hx=>h x (List.mem_cons_of_mem _ hx)
    have r:=h y (List.mem_cons_self ..)
    have h2:=insB_five (rec:=bytesI d) (sz:=size d) r
    have h3:=bytesI_wt d y.body r.body
    have h4:=bytesI_wt d y.els r.els
    show (insB (bytesI d) (size d) y++insL (bytesI d) (size d) _).length<=(1+y.labels.length / 10+wt d y.body+wt d y.els+wtL (wt d) _)*56
    rw [List.length_append]
    omega
  exact key (show List (Ins (IL d)) from l) hR
end Enc
end Go.Proofs.YtiailkiepndliaaGreatDoor

namespace Go.Proofs.YtiailkiepndliaaGreatDoor
open Go.RowKit Rep Enc Go.Lib
set_option linter.unusedVariables false
namespace Enc
theorem NR_empty:∀(d:Nat) (l:IL d),size d l=0->NR d l
 | 0,_,_=>trivial
 | d+1,l,h=>by
  intro x hx
  have:(show List (Ins (IL d)) from l) = []:=List.length_eq_zero_iff.1 h
  rw [this] at hx;cases hx
theorem NR_on {w:World}:∀(d e:Nat) (v:Value) (l:IL d) (k:IL e),At w d v l->At w e v k->NR e k->NR d l
 | 0,_,_,_,_,_,_,_=>trivial
 | d+1,0,v,l,k,hl,hk,_=>by
  obtain ⟨o,cap,rfl⟩:=hk
  obtain ⟨o',cap',h⟩:=At.len (d+1) _ _ hl
  injection h with _ h2 _
  exact NR_empty (d+1) l h2.symm
 | d+1,e+1,v,l,k,hl,hk,hN=>by
  intro x hx
  have hl':Row 7 (InsAt w (At w d)) v (show List (Ins (IL d)) from l):=hl
  have hk':Row 7 (InsAt w (At w e)) v (show List (Ins (IL e)) from k):=hk
  obtain ⟨i,hi,rfl⟩:=List.getElem_of_mem hx
  obtain ⟨b,off,cap,hv,hc⟩:=Row.some hl' (by omega)
  obtain ⟨o2,cap2,hv2⟩:=Row.len hk'
  rw [hv] at hv2
  injection hv2 with _ hlen _
  obtain ⟨b',off',cap',hv',hc'⟩:=Row.some hk' (by omega)
  rw [hv] at hv'
  injection hv' with ha _ _
  injection ha with ha
  injection ha with hb ho _
  subst hb ho
  obtain ⟨y,hy⟩:∃y,(show List (Ins (IL e)) from k)[i]?=some y:=⟨_,List.getElem?_eq_getElem (by omega)⟩
  have hX:=hc i _ (List.getElem?_eq_getElem hi)
  have hY:=hc' i y hy
  obtain ⟨n1,n2,n3⟩:=hN y (List.mem_of_getElem? hy)
  obtain ⟨v5,c5,a5⟩:=hX.body
  obtain ⟨v6,c6,a6⟩:=hX.els
  obtain ⟨u5,d5,b5⟩:=hY.body
  obtain ⟨u6,d6,b6⟩:=hY.els
  have e5:v5=u5:=by rw [c5] at d5;exact Option.some.inj d5
  have e6:v6=u6:=by rw [c6] at d6;exact Option.some.inj d6
  have en:((show List (Ins (IL d)) from l)[i]).n=y.n:=by
   have h1:=hX.n
   rw [hY.n] at h1
   injection h1 with h1
   injection h1 with _ h1
   exact h1.symm
  refine ⟨by rw [en];exact n1,?_,?_⟩
  ·exact NR_on d e v5 _ y.body a5 (e5 ▸ b5) n2
  ·exact NR_on d e v6 _ y.els a6 (e6 ▸ b6) n3
end Enc
section Of
variable {H:Type} {enc:TypeId × Value->H} {w:World} {base:Nat} {spare:Nat->Bool} {held:Bool}
theorem insN_of {n d:Nat} {cs:List Value} {y:DataW H × List MemPlace} {b o:Nat} (hy:DataW.trod enc Tryz.prog w base spare held n 50 cs=some y) (hc:∀j,j<7->w.cell? ⟨b,o+j,none⟩=cs[j]?)
  (ih:∀m v x,n=m+1->DataW.trod enc Tryz.prog w base spare held m 22 [v]=some x->∃l:IL d,At w d v l/\NR d l):∃z:Ins (IL d),InsAt w (At w d) b o z/\NR1 (NR d) z:=by
 obtain ⟨xs,m,rfl,_,_,hxl,hall⟩:=DataW.trod_struct Tryz.underlying50 hy
 obtain ⟨y0,g0⟩:=field_get hxl hall 0 _ rfl
 obtain ⟨y1,g1⟩:=field_get hxl hall 1 _ rfl
 obtain ⟨y2,g2⟩:=field_get hxl hall 2 _ rfl
 obtain ⟨y3,g3⟩:=field_get hxl hall 3 _ rfl
 obtain ⟨y4,g4⟩:=field_get hxl hall 4 _ rfl
 obtain ⟨y5,g5⟩:=field_get hxl hall 5 _ rfl
 obtain ⟨y6,g6⟩:=field_get hxl hall 6 _ rfl
 obtain ⟨z0,e0,_⟩:=int_field Tryz.underlying3 cInt g0
 obtain ⟨z1,e1,_⟩:=int_field Tryz.underlying3 cInt g1
 obtain ⟨z2,e2,_⟩:=int_field Tryz.underlying3 cInt g2
 obtain ⟨z3,e3,hw0⟩:=int_field Tryz.underlying3 cInt g3
 have hw:-9223372036854775808<=z3/\z3<=9223372036854775807:=by have:=bounds_i64 hw0;omega
 obtain ⟨v4,e4,t4⟩:=slice_field Tryz.underlying24 cInts g4
 obtain ⟨v5,e5,t5⟩:=slice_field Tryz.underlying22 cInstrs g5
 obtain ⟨v6,e6,t6⟩:=slice_field Tryz.underlying22 cInstrs g6
 obtain ⟨l4,h4⟩:=ints_of t4
 obtain ⟨l5,h5,r5⟩:=ih m v5 _ rfl t5
 obtain ⟨l6,h6,r6⟩:=ih m v6 _ rfl t6
 exact ⟨⟨z0,z1,z2,z3,l4,l5,l6⟩,⟨(hc 0 (by omega)).trans e0,(hc 1 (by omega)).trans e1,(hc 2 (by omega)).trans e2,(hc 3 (by omega)).trans e3,⟨v4,(hc 4 (by omega)).trans e4,h4⟩,⟨v5,(hc 5 (by omega)).trans e5,h5⟩,⟨v6,(hc 6 (by omega)).trans e6,h6⟩⟩,hw,r5,r6⟩
theorem atN_of (fuel:Nat):∀(d:Nat) (v:Value) (x:DataW H × List MemPlace),fuel<=d->DataW.trod enc Tryz.prog w base spare held fuel 22 [v]=some x->∃l:IL d,At w d v l/\NR d l:=by
 induction fuel using Nat.strongRecOn with
 | _ fuel ih =>
  intro d v x hd h
  cases d with
  | zero =>
   obtain rfl:fuel=0:=by omega
   simp [DataW.trod] at h
  | succ d =>
   obtain ⟨⟨l,hl⟩,_⟩:=row_of_trod (α:=Ins (IL d)) 7 (by omega) (fun b o z=>InsAt w (At w d) b o z/\NR1 (NR d) z) Tryz.underlying22 cInstr h fun n cs y b o hn hy _ hc =>
    insN_of hy hc fun m' v x hm hx=>ih m' (by omega) d v x (by omega) hx
   exact ⟨l,hl.imp fun _ _ _ _ h=>h.1,row_mem hl⟩
end Of
end Go.Proofs.YtiailkiepndliaaGreatDoor

namespace Go.Proofs.YtiailkiepndliaaGreatDoor
open Go.RowKit Rep Enc Go.Lib
set_option linter.unusedVariables false
namespace Enc
theorem bodyRg {d:Nat} {l:IL d} (hN:NR d l) (h:chk (bodyM l)=0):Rg d l/\(bytesI d l).length<=38000000000000:=by
 obtain ⟨_,⟨c,hc⟩,hL,_,hF⟩:=chk_zero h
 have hR:=rg_of d l 0 (goF_one hF) (goF_one hL) hN
 have hc':=goF_one (f:={ type:=0,locals:=[],body:=l }) hc
 have h1:=goI_tot d l 0 0 c hc'
 have h2:=goI_count_le d l 0 0 c (by omega) hc'
 have h3:=bytesI_len d l hR
 have h4:tot d l<=65536:=by omega
 have h5:tot d l*100000100<=65536*100000100:=Nat.mul_le_mul_right _ h4
 exact ⟨hR,by omega⟩
def sA {d:Nat} (l:IL d):ByteArray:=if chk (bodyM l)=0 then strOfNums (bytesI d l++[11]) else ⟨#[]⟩
theorem bodA_small {d:Nat} {l:IL d} (hN:NR d l) (hw:wt d l<=3000):bodA l=.tuple #[.string (sA l),.int .i64 (chk (bodyM l))]:=by
 unfold bodA sA
 by_cases h:chk (bodyM l)=0
 ·rw [if_pos h,if_pos h,h]
  have h1:=bytesI_wt d l (bodyRg hN h).1
  unfold told
  rw [if_neg (by simp only [List.length_append,List.length_cons,List.length_nil];omega)]
 ·rw [if_neg h,if_neg h]
theorem largeBody {w:World} {b:Nat} {lv:Value} {m:Mod 81} (hM:ModAt w 81 (.slice none 0 0) (.slice none 0 0) (.slice (some ⟨b,0,none⟩) 1 1) (.slice none 0 0) (.slice none 0 0) (.slice none 0 0) (.slice none 0 0) (.slice none 0 0) (.slice none 0 0) (.slice none 0 0) m) (hs:Small m) (hc:w.cell? ⟨b,2,none⟩=some lv):∃k:IL 81,At w 81 lv k/\Lb 81 k/\wt 81 k<=1500:=by
 obtain ⟨o,cap,hv⟩:=Row.len hM.funcs
 injection hv with _ hl _
 obtain ⟨b',off,cap',hv',hcx⟩:=Row.some hM.funcs (by omega)
 injection hv' with ha _ _
 injection ha with ha
 injection ha with hb ho _
 subst hb ho
 obtain ⟨f,hf⟩:∃f,m.funcs[0]?=some f:=⟨_,List.getElem?_eq_getElem (by omega)⟩
 obtain ⟨_,_,v,hv,hA⟩:=hcx 0 f hf
 have:v=lv:=by
  have h1:w.cell? ⟨b,0+0*3+2,none⟩=some v:=hv
  simp only [Nat.zero_mul,Nat.zero_add] at h1
  rw [hc] at h1
  exact (Option.some.inj h1).symm
 subst this
 have h:=hs.funcs f (List.mem_of_getElem? hf)
 exact ⟨f.body,hA,h.2,h.1.2⟩
end Enc
set_option maxRecDepth 100000 in
set_option maxHeartbeats 8000000 in
theorem refCopiesC (d:Nat) (v:Value) (l:IL d) (w:World) (hA:At w d v l) (hL:Lb d l):Calls Tryz.prog 7 #[v] w (CopyPost d l w):=by
 obtain ⟨oL,kL,rfl⟩:=At.len d _ _ hA
 have HC:=hideR (refCopies d _ l w hA hL)
 clear hA hL
 generalize size d l=n at *
 go_enter Tryz.func7,Tryz.ntmps7
 go_wp2_with fail
 refine HC.out.mono ?_
 rintro e w1 ⟨v1,rfl,h1,h2⟩
 have HF:=hideR (⟨h1,h2⟩:_/\_)
 obtain ⟨o1,k1,rfl⟩:=At.len d _ _ (AtS.at d _ _ h1)
 clear h1 h2 HC
 generalize size d l=n1 at *
 go_wp2
 go_ret
 exact ⟨_,rfl,HF.out.1,HF.out.2⟩
end Go.Proofs.YtiailkiepndliaaGreatDoor

