/- Texts that the claim needs. -/
import Derived.Test.YtlcpagiljfpbpaaDoorQEUn32
import Derived.Ground.NamesProg
import Derived.WalkMore
import Derived.Shelf.Lay
import Derived.Shelf.Unicode.ValidAny
import Derived.Shelf.Spec.SlicesGrow
import Derived.Laws.AppendOwn
import Derived.Laws.AppendOwnNone
import Derived.OwnWalk
import Derived.Test.YtlcpagiljfpbpaaDoorQEUn2
namespace Go.Proofs
open Go.RowKit Go.Shelf Go.Lib
shelf_lay Lays.n196 Nm 196 at Tryd as Tryd.laysValid
namespace YtlcpagiljfpbpaaDoor
open Go.RowKit Rep
def UtfI (w:World):Prop:=Lib.Utf8Tabs (Tryd.laysValid_ren.g 3) (Tryd.laysValid_ren.g 4) w
set_option maxHeartbeats 1000000 in
set_option maxRecDepth 1000000 in
theorem pName (s:ByteArray) (w:World) (hs:s.size<=9223372036854775807) (hT:UtfI w) :
  Calls Tryd.prog 71 #[.string s] w fun e w'=>e=.returned (.bool (nm s))/\Below w.heap.size w w':=by
 have cV:Calls Tryd.prog 82 #[.string s] w _:=Any.utf8_ValidString Tryd.laysValid s w (by omega) hT
 unfold nm
 generalize Lib.validD s.data.toList=V at cV ⊢
 have CV:=hideM cV
 clear cV
 by_cases h0:s.size<=64
 ·have h0z:decide ((s.size:Int)<=64)=true:=by simp;omega
  rw [h0z,Bool.true_and]
  go_enter Tryd.func71,Tryd.ntmps71
  go_wp2_with fail
  refine CV.out.mono ?_
  rintro e w' ⟨rfl,hb⟩
  go_wp2
  go_ret
  exact ⟨rfl,hb⟩
 ·have h0z:decide ((s.size:Int)<=64)=false:=by simp;omega
  rw [h0z,Bool.false_and]
  clear CV
  go_enter Tryd.func71,Tryd.ntmps71
  go_wp2
  go_ret
  exact ⟨rfl,Below.refl _ _⟩
end YtlcpagiljfpbpaaDoor
end Go.Proofs

namespace Go.Proofs
open Go.RowKit Go.Shelf Go.Lib
shelf_lay_g Lays8.n4 Nm8 4 at Tryd 72 as Tryd.growL
namespace YtlcpagiljfpbpaaDoor
open Go.RowKit Rep
namespace Rep
def limCells:List Lim->List Value
 | []=>[]
 | x :: r=>.int .i64 x.min :: .int .i64 x.max :: .bool x.has :: limCells r
theorem limCells_len:∀l:List Lim,(limCells l).length=l.length*3
 | []=>rfl
 | x :: r=>by show (limCells r).length+1+1+1=(r.length+1)*3;rw [limCells_len r];omega
theorem limCells_app:∀a b:List Lim,limCells (a++b)=limCells a++limCells b
 | [],_=>rfl
 | x :: r,b=>by show _ :: _ :: _ :: limCells (r++b)=_;rw [limCells_app r b];rfl
theorem limCells_one:∀(l:List Lim) (u:Value),u ∈ limCells l->u.oneCell'=true
 | [],_,h=>by cases h
 | x :: r,u,h=>by
  simp only [limCells,List.mem_cons] at h
  rcases h with rfl|rfl|rfl|h
  ·rfl
  ·rfl
  ·rfl
  ·exact limCells_one r u h
theorem limCells_get:∀(l:List Lim) (i:Nat) (x:Lim),l[i]?=some x->(limCells l)[i*3]?=some (.int .i64 x.min)/\(limCells l)[i*3+1]?=some (.int .i64 x.max)/\(limCells l)[i*3+2]?=some (.bool x.has)
 | [],_,_,h=>by simp at h
 | y :: r,0,x,h=>by
  simp at h;subst h;exact ⟨rfl,rfl,rfl⟩
 | y :: r,i+1,x,h=>by
  have h':r[i]?=some x:=by simpa using h
  have:=limCells_get r i x h'
  have e:(i+1)*3=i*3+1+1+1:=by omega
  rw [e]
  simpa [limCells] using this
theorem limCells_at {w:World} {b off:Nat}:∀(l:List Lim) (o:Nat),(∀(i:Nat) (x:Lim),l[i]?=some x->LimAt w b (o+i*3) x)->∀j u,(limCells l)[j]?=some u->w.cell? ⟨b,o+j,none⟩=some u
 | [],_,_,_,_,h=>by simp [limCells] at h
 | x :: r,o,hx,j,u,h=>by
  have h0:=hx 0 x rfl
  match j,h with
  | 0,h=>simp [limCells] at h;subst h;simpa using h0.min
  | 1,h=>simp [limCells] at h;subst h;simpa using h0.max
  | 2,h=>simp [limCells] at h;subst h;simpa using h0.has
  | j+3,h =>
   have h':(limCells r)[j]?=some u:=by simpa [limCells] using h
   have:=limCells_at (b:=b) (off:=off) r (o+3) (fun i y hy=>by
    have:=hx (i+1) y (by simpa using hy)
    rw [show o+3+i*3=o+(i+1)*3 by omega];exact this) j u h'
   rw [show o+(j+3)=o+3+j by omega];exact this
end Rep
end YtlcpagiljfpbpaaDoor
end Go.Proofs

namespace Go.Proofs.YtlcpagiljfpbpaaDoor
open Go.RowKit Go.Shelf Rep
set_option linter.unusedVariables false
namespace Rep
def upto (L3 L4:List Lim) (j:Nat):List Lim:=if j=0 then [] else if j=1 then L3 else L3++L4
theorem below_grown {B:Nat} {a w w':World} {v:Value} {n e:Nat} {xs:List Value} (h:Below B a w) (hown:w.ownsRow B e 3 v n xs) (hg:w.grownBy w' v.ownBlock) (hB:B<=w.heap.size):Below B a w' :=
 h.grown hg hB fun k hk=>(hown.lt k hk).1
theorem addr_eq (g k o:Nat) (h:o=0+k):(⟨g,o,none⟩:Addr)=(⟨g,0,none⟩:Addr).add k:=by
 subst h
 by_cases hk:k=0
 ·subst hk;rfl
 ·simp [Addr.add,hk]
theorem addr_eq' (g o k:Nat):(⟨g,o,none⟩:Addr).add k=⟨g,o+k,none⟩:=by
 by_cases hk:k=0
 ·subst hk;rfl
 ·simp [Addr.add,hk]
theorem row_none {w:World} {n c:Nat} {L:List Lim} (h:Row 3 (LimAt w) (.slice none n c) L):L = []:=by
 rcases h.2 with ⟨h,_⟩|⟨_,_,_,h,_⟩
 ·exact h
 ·injection h with h;cases h
theorem row_at {w:World} {ad:Addr} {n c:Nat} {L:List Lim} (h:Row 3 (LimAt w) (.slice (some ad) n c) L):∀jx ux,(limCells L)[jx]?=some ux->w.cell? (ad.add jx)=some ux:=by
 intro jx ux hx
 rcases h.2 with ⟨h,_⟩|⟨bb,oo,cc,h,hcell⟩
 ·rw [h] at hx;simp [limCells] at hx
 ·injection h with h1;injection h1 with h1;subst h1
  have:=limCells_at (off:=0) L oo hcell jx ux hx
  rw [addr_eq' bb oo jx];exact this
theorem own_row {w:World} {B e:Nat} {v:Value} {l:List Lim} (h:w.ownsRow B e 3 v l.length (limCells l)) (hl:l.length<=9223372036854775807):∃o c,v=.slice o l.length c/\Row 3 (LimAt w) (.slice o l.length c) l:=by
 rcases h.2 with ⟨rfl,h0⟩|⟨g,cap,cur,rfl,_⟩
 ·obtain rfl:l = []:=List.length_eq_zero_iff.1 h0
  exact ⟨none,0,rfl,hl,.inl ⟨rfl,none,0,rfl⟩⟩
 ·refine ⟨some ⟨g,0,none⟩,cap,rfl,hl,.inr ⟨g,0,cap,rfl,fun i x hi=>?_⟩⟩
  have hc:=h.cells (g:=g) rfl
  have hg:=limCells_get l i x hi
  refine ⟨?_,?_,?_⟩
  ·rw [addr_eq g (i*3) (0+i*3) rfl];exact hc _ _ hg.1
  ·rw [addr_eq g (i*3+1) (0+i*3+1) (by omega)];exact hc _ _ hg.2.1
  ·rw [addr_eq g (i*3+2) (0+i*3+2) (by omega)];exact hc _ _ hg.2.2
end Rep
theorem limInfo:(Tryd.prog.info? 73).map (fun i=>(i.zero,i.size,i.bytes))=some (some (.agg #[.int .i64 0,.int .i64 0,.bool false]),3,24):=by kernel_rfl
theorem pGrow (n:Nat) (h:n<=8192) (w:World):Calls Tryd.prog 72 #[.slice none 0 0,.int .i64 n] w fun e w' =>
  ∃v,e=.returned v/\w'.ownsRow w.heap.size 73 3 v 0 []/\Below w.heap.size w w':=by
 by_cases h0:n=0
 ·subst h0
  refine (Any8.slices_Grow_room Tryd.growL none 0 0 0 w (by omega) (by omega) (by omega) (by omega)).mono ?_
  rintro e w' ⟨rfl,rfl⟩
  exact ⟨_,rfl,World.ownsRow_nil _ _ _ _,Below.refl _ _⟩
 ·obtain ⟨i0,hi,hz,hs,hby⟩:=info_parts limInfo
  refine (Any8.slices_Grow_grow Tryd.growL i0 _ hi hz (by omega) none 0 0 n [] w (by omega) (by omega) (by rw [hby];omega) (by omega) (by simp) (fun _=>rfl) (fun a ha=>by cases ha)).mono ?_
  rintro e w' ⟨rfl,rfl⟩
  have hge:=grownCap_ge w (0+n) 0 73
  have hle:=grownCap_le_maxLen w (0+n) 0 73 (by unfold maxLen;omega)
  refine ⟨_,rfl,World.ownsRow_made w.drew _ _ (Nat.le_refl _) hle ?_,(Below.refl _ w).drew.alloc (Nat.le_refl _) _⟩
  simp only [Array.size_append,size_zeroCells]
  show 0+(0+n-0)*3+(grownCap w (0+n) 0 73-(0+n))*3=grownCap w (0+n) 0 73*3
  omega
set_option maxHeartbeats 2000000 in
theorem pConcat (L3 L4:List Lim) (o3 o4:Option Addr) (c3 c4:Nat) (u:World) (b:Nat) (h3:Row 3 (LimAt u) (.slice o3 L3.length c3) L3) (h4:Row 3 (LimAt u) (.slice o4 L4.length c4) L4)
  (z3:o3=none->c3=0) (z4:o4=none->c4=0) (k0:u.cell? ⟨b,0,none⟩=some (.slice o3 L3.length c3)) (k1:u.cell? ⟨b,1,none⟩=some (.slice o4 L4.length c4)) (b3:L3.length<=4096) (b4:L4.length<=4096) :
  Calls Tryd.prog 56 #[.slice (some ⟨b,0,none⟩) 2 2] u fun e u' =>
   (∃o c,e=.returned (.slice o (L3++L4).length c)/\Row 3 (LimAt u') (.slice o (L3++L4).length c) (L3++L4))/\Below u.heap.size u u':=by
 have H3:=hideM h3
 have H4:=hideM h4
 clear h3 h4
 generalize hn3:L3.length=n3 at *
 generalize hn4:L4.length=n4 at *
 go_enter Tryd.func56,Tryd.ntmps56
 go_wp2_with fail
 go_loopw [3,11] (fun t i wr=>∃j:Nat,j<=2/\i=.int .i64 j/\t=.int .i64 ((if j=0 then 0 else if j=1 then n3 else n3+n4:Nat):Int)/\wr=u) (fun _ i _=>2-(RowKit.intOf i).toNat)
 case atStart=>exact ⟨0,by omega,rfl,rfl,rfl⟩
 case round =>
  obtain ⟨j,hj,rfl,rfl,rfl⟩:=hrel
  rcases (by omega:j=0\/j=1\/j=2) with rfl|rfl|rfl
  ·go_wp2
   go_roundw
   case rel=>exact ⟨1,by omega,by go_num,by go_num,trivial⟩
   case measure=>simp [RowKit.intOf]
  ·go_wp2
   go_roundw
   case rel=>exact ⟨2,by omega,by go_num,by go_num,trivial⟩
   case measure=>simp [RowKit.intOf]
  ·go_wp2_with fail
   have HG:=hideM (pGrow (n3+n4) (by omega) wr)
   rw [show (((n3+n4:Nat)):Int)=(n3:Int)+(n4:Int) by omega] at HG
   refine HG.out.mono ?_
   rintro e wg ⟨vg,rfl,hown,hbel⟩
   have HO:Hid (wg.ownsRow wr.heap.size 73 3 vg (upto L3 L4 0).length (limCells (upto L3 L4 0))):=hown
   have HB:=hideM hbel
   clear HG hown hbel
   obtain ⟨ws,rfl⟩:∃ws,ws=wr:=⟨_,rfl⟩
   go_wp2_with fail
   go_loopw [6,27] (fun t i wr=>∃j:Nat,j<=2/\i=.int .i64 j/\Hid (wr.ownsRow ws.heap.size 73 3 t (upto L3 L4 j).length (limCells (upto L3 L4 j)))/\Hid (Below ws.heap.size ws wr)) (fun _ i _=>2-(RowKit.intOf i).toNat)
   case atStart=>exact ⟨0,by omega,rfl,HO,HB⟩
   case round =>
    obtain ⟨j,hj,rfl,HOW,HBW⟩:=hrel
    rcases (by omega:j=0\/j=1\/j=2) with rfl|rfl|rfl
    ·have q0:wr.cell? ⟨b,0,none⟩=some (.slice o3 n3 c3):=cell_on HBW.out k0
     obtain ⟨i0,hi,hz0,hz1,hz2⟩:=info_parts limInfo
     have hsz:=HBW.out.size
     have hul:(upto L3 L4 0).length<=8192:=by show 0<=_;omega
     have hup:Hid (upto L3 L4 1=upto L3 L4 0++L3):=rfl
     have hnl:Hid (L3.length=n3):=hn3
     have HRW:=hideM (H3.out.imp fun _ _ _ _=>LimAt.on HBW.out)
     cases o3 with
     | none =>
      obtain rfl:c3=0:=z3 rfl
      have hnil:L3 = []:=row_none HRW.out
      have hn0:n3=0:=by rw [<- hnl.out,hnil];rfl
      rw [hn0] at q0
      go_wp2_with (first|(at_builtin;refine wpList_append_own_none rfl _ _ 25 rfl ws.heap.size 73 i0 3 Tryd.underlying25 hi _ _ _ rfl HOW.out rfl ?_))
      go_wp2
      go_roundw
      case rel=>exact ⟨_,_,_,⟨1,by omega,rfl,HOW⟩,rfl,rfl,rfl⟩
      case measure=>simp [RowKit.intOf]
     | some ad =>
      have HAT:=hideM (row_at HRW.out)
      go_wp2_with (first|(at_builtin;refine wpList_append_own _ rfl _ _ 25 rfl ws.heap.size 73 i0 _ 3 24 Tryd.underlying25 hi hz0 hz1 hz2 rfl (by decide) _ _ _ rfl HOW.out ad n3 c3 (limCells L3) rfl ?c0 HAT.out ?c2 ?c3 ?c4 ?c5 ?_))
      case c0=>rw [limCells_len,hnl.out]
      case c2=>exact limCells_one L3
      case c3=>unfold maxLen;omega
      case c4=>omega
      case c5=>omega
      intro v' w1 hown' hgrow _
      have HB2:=hideM (below_grown HBW.out HOW.out hgrow (by omega))
      have HO2:Hid (w1.ownsRow ws.heap.size 73 3 v' (upto L3 L4 1).length (limCells (upto L3 L4 1))):=by
       rw [hup.out,limCells_app,List.length_append,hnl.out];exact hown'
      clear hown' hgrow
      go_wp2
      go_roundw
      case rel=>exact ⟨1,by omega,by go_num,HO2,HB2⟩
      case measure=>simp [RowKit.intOf]
    ·have q0:wr.cell? ⟨b,1,none⟩=some (.slice o4 n4 c4):=cell_on HBW.out k1
     obtain ⟨i0,hi,hz0,hz1,hz2⟩:=info_parts limInfo
     have hsz:=HBW.out.size
     have hul:(upto L3 L4 1).length<=8192:=by show L3.length<=_;omega
     have hup:Hid (upto L3 L4 2=upto L3 L4 1++L4):=rfl
     have hnl:Hid (L4.length=n4):=hn4
     have HRW:=hideM (H4.out.imp fun _ _ _ _=>LimAt.on HBW.out)
     cases o4 with
     | none =>
      obtain rfl:c4=0:=z4 rfl
      have hnil:L4 = []:=row_none HRW.out
      have hn0:n4=0:=by rw [<- hnl.out,hnil];rfl
      rw [hn0] at q0
      go_wp2_with (first|(at_builtin;refine wpList_append_own_none rfl _ _ 25 rfl ws.heap.size 73 i0 3 Tryd.underlying25 hi _ _ _ rfl HOW.out rfl ?_))
      go_wp2
      go_roundw
      case rel=>exact ⟨_,_,_,⟨2,by omega,rfl,by show Hid (World.ownsRow _ _ _ _ _ (L3++[]).length (limCells (L3++[])));rw [List.append_nil];exact HOW⟩,rfl,rfl,rfl⟩
      case measure=>simp [RowKit.intOf]
     | some ad =>
      have HAT:=hideM (row_at HRW.out)
      go_wp2_with (first|(at_builtin;refine wpList_append_own _ rfl _ _ 25 rfl ws.heap.size 73 i0 _ 3 24 Tryd.underlying25 hi hz0 hz1 hz2 rfl (by decide) _ _ _ rfl HOW.out ad n4 c4 (limCells L4) rfl ?c0 HAT.out ?c2 ?c3 ?c4 ?c5 ?_))
      case c0=>rw [limCells_len,hnl.out]
      case c2=>exact limCells_one L4
      case c3=>unfold maxLen;omega
      case c4=>omega
      case c5=>omega
      intro v' w1 hown' hgrow _
      have HB2:=hideM (below_grown HBW.out HOW.out hgrow (by omega))
      have HO2:Hid (w1.ownsRow ws.heap.size 73 3 v' (upto L3 L4 2).length (limCells (upto L3 L4 2))):=by
       rw [hup.out,limCells_app,List.length_append,hnl.out];exact hown'
      clear hown' hgrow
      go_wp2
      go_roundw
      case rel=>exact ⟨2,by omega,by go_num,HO2,HB2⟩
      case measure=>simp [RowKit.intOf]
    ·have hfin:=own_row (l:=L3++L4) HOW.out (by rw [List.length_append];omega)
     obtain ⟨of,cf,rfl,hrow⟩:=hfin
     have HRF:=hideM hrow
     clear hrow
     go_wp2
     go_ret
     exact ⟨⟨of,cf,rfl,HRF.out⟩,HBW.out⟩
end Go.Proofs.YtlcpagiljfpbpaaDoor

namespace Go.Proofs.YtlcpagiljfpbpaaDoor
open Go.RowKit Rep
set_option linter.unusedVariables false
namespace Rep
def rkn (op:Int):Bool:=decide ((69<=op/\op<=90)\/(103<=op/\op<=138)\/op=167\/op=172\/op=173)
def flt (op:Int):Bool:=decide (op=42\/op=43\/op=56\/op=57\/op=67\/op=68\/(91<=op/\op<=102)\/(139<=op/\op<=166)\/(168<=op/\op<=171)\/(174<=op/\op<=191))
end Rep
structure ReckC (I:World->Prop):Prop where
 keep:∀ {w w':World},Below w.heap.size w w'->I w->I w'
 reckons:∀(op:Int) (w:World),I w->Calls Tryd.prog 73 #[.int .i64 op] w fun e w'=>e=.returned (.bool (rkn op))/\Below w.heap.size w w'
set_option maxHeartbeats 1000000 in
theorem pfloats0 (op:Int) (w:World) (h:op<=41):Calls Tryd.prog 74 #[.int .i64 op] w fun e w'=>e=.returned (.bool false)/\w'=w:=by
 have q42:(op == 42)=false:=by rw [beq_eq_false_iff_ne];omega
 have q43:(op == 43)=false:=by rw [beq_eq_false_iff_ne];omega
 have q56:(op == 56)=false:=by rw [beq_eq_false_iff_ne];omega
 have q57:(op == 57)=false:=by rw [beq_eq_false_iff_ne];omega
 have q67:(op == 67)=false:=by rw [beq_eq_false_iff_ne];omega
 have q68:(op == 68)=false:=by rw [beq_eq_false_iff_ne];omega
 have a91:decide ((91:Int)<=op)=false:=decide_eq_false (by omega)
 have a139:decide ((139:Int)<=op)=false:=decide_eq_false (by omega)
 have a168:decide ((168:Int)<=op)=false:=decide_eq_false (by omega)
 have a174:decide ((174:Int)<=op)=false:=decide_eq_false (by omega)
 clear h
 go_enter Tryd.func74,Tryd.ntmps74
 go_wp2
 go_ret
 exact ⟨rfl,rfl⟩
set_option maxHeartbeats 1000000 in
theorem pfloats1 (op:Int) (w:World) (h:42<=op/\op<=42):Calls Tryd.prog 74 #[.int .i64 op] w fun e w'=>e=.returned (.bool true)/\w'=w:=by
 obtain rfl:op=42:=by omega
 clear h
 go_enter Tryd.func74,Tryd.ntmps74
 go_wp2
 go_ret
 exact ⟨rfl,rfl⟩
set_option maxHeartbeats 1000000 in
theorem pfloats2 (op:Int) (w:World) (h:43<=op/\op<=43):Calls Tryd.prog 74 #[.int .i64 op] w fun e w'=>e=.returned (.bool true)/\w'=w:=by
 obtain rfl:op=43:=by omega
 clear h
 go_enter Tryd.func74,Tryd.ntmps74
 go_wp2
 go_ret
 exact ⟨rfl,rfl⟩
set_option maxHeartbeats 1000000 in
theorem pfloats3 (op:Int) (w:World) (h:44<=op/\op<=55):Calls Tryd.prog 74 #[.int .i64 op] w fun e w'=>e=.returned (.bool false)/\w'=w:=by
 have q42:(op == 42)=false:=by rw [beq_eq_false_iff_ne];omega
 have q43:(op == 43)=false:=by rw [beq_eq_false_iff_ne];omega
 have q56:(op == 56)=false:=by rw [beq_eq_false_iff_ne];omega
 have q57:(op == 57)=false:=by rw [beq_eq_false_iff_ne];omega
 have q67:(op == 67)=false:=by rw [beq_eq_false_iff_ne];omega
 have q68:(op == 68)=false:=by rw [beq_eq_false_iff_ne];omega
 have a91:decide ((91:Int)<=op)=false:=decide_eq_false (by omega)
 have a139:decide ((139:Int)<=op)=false:=decide_eq_false (by omega)
 have a168:decide ((168:Int)<=op)=false:=decide_eq_false (by omega)
 have a174:decide ((174:Int)<=op)=false:=decide_eq_false (by omega)
 clear h
 go_enter Tryd.func74,Tryd.ntmps74
 go_wp2
 go_ret
 exact ⟨rfl,rfl⟩
set_option maxHeartbeats 1000000 in
theorem pfloats4 (op:Int) (w:World) (h:56<=op/\op<=56):Calls Tryd.prog 74 #[.int .i64 op] w fun e w'=>e=.returned (.bool true)/\w'=w:=by
 obtain rfl:op=56:=by omega
 clear h
 go_enter Tryd.func74,Tryd.ntmps74
 go_wp2
 go_ret
 exact ⟨rfl,rfl⟩
set_option maxHeartbeats 1000000 in
theorem pfloats5 (op:Int) (w:World) (h:57<=op/\op<=57):Calls Tryd.prog 74 #[.int .i64 op] w fun e w'=>e=.returned (.bool true)/\w'=w:=by
 obtain rfl:op=57:=by omega
 clear h
 go_enter Tryd.func74,Tryd.ntmps74
 go_wp2
 go_ret
 exact ⟨rfl,rfl⟩
set_option maxHeartbeats 1000000 in
theorem pfloats6 (op:Int) (w:World) (h:58<=op/\op<=66):Calls Tryd.prog 74 #[.int .i64 op] w fun e w'=>e=.returned (.bool false)/\w'=w:=by
 have q42:(op == 42)=false:=by rw [beq_eq_false_iff_ne];omega
 have q43:(op == 43)=false:=by rw [beq_eq_false_iff_ne];omega
 have q56:(op == 56)=false:=by rw [beq_eq_false_iff_ne];omega
 have q57:(op == 57)=false:=by rw [beq_eq_false_iff_ne];omega
 have q67:(op == 67)=false:=by rw [beq_eq_false_iff_ne];omega
 have q68:(op == 68)=false:=by rw [beq_eq_false_iff_ne];omega
 have a91:decide ((91:Int)<=op)=false:=decide_eq_false (by omega)
 have a139:decide ((139:Int)<=op)=false:=decide_eq_false (by omega)
 have a168:decide ((168:Int)<=op)=false:=decide_eq_false (by omega)
 have a174:decide ((174:Int)<=op)=false:=decide_eq_false (by omega)
 clear h
 go_enter Tryd.func74,Tryd.ntmps74
 go_wp2
 go_ret
 exact ⟨rfl,rfl⟩
set_option maxHeartbeats 1000000 in
theorem pfloats7 (op:Int) (w:World) (h:67<=op/\op<=67):Calls Tryd.prog 74 #[.int .i64 op] w fun e w'=>e=.returned (.bool true)/\w'=w:=by
 obtain rfl:op=67:=by omega
 clear h
 go_enter Tryd.func74,Tryd.ntmps74
 go_wp2
 go_ret
 exact ⟨rfl,rfl⟩
set_option maxHeartbeats 1000000 in
theorem pfloats8 (op:Int) (w:World) (h:68<=op/\op<=68):Calls Tryd.prog 74 #[.int .i64 op] w fun e w'=>e=.returned (.bool true)/\w'=w:=by
 obtain rfl:op=68:=by omega
 clear h
 go_enter Tryd.func74,Tryd.ntmps74
 go_wp2
 go_ret
 exact ⟨rfl,rfl⟩
set_option maxHeartbeats 1000000 in
theorem pfloats9 (op:Int) (w:World) (h:69<=op/\op<=90):Calls Tryd.prog 74 #[.int .i64 op] w fun e w'=>e=.returned (.bool false)/\w'=w:=by
 have q42:(op == 42)=false:=by rw [beq_eq_false_iff_ne];omega
 have q43:(op == 43)=false:=by rw [beq_eq_false_iff_ne];omega
 have q56:(op == 56)=false:=by rw [beq_eq_false_iff_ne];omega
 have q57:(op == 57)=false:=by rw [beq_eq_false_iff_ne];omega
 have q67:(op == 67)=false:=by rw [beq_eq_false_iff_ne];omega
 have q68:(op == 68)=false:=by rw [beq_eq_false_iff_ne];omega
 have a91:decide ((91:Int)<=op)=false:=decide_eq_false (by omega)
 have a139:decide ((139:Int)<=op)=false:=decide_eq_false (by omega)
 have a168:decide ((168:Int)<=op)=false:=decide_eq_false (by omega)
 have a174:decide ((174:Int)<=op)=false:=decide_eq_false (by omega)
 clear h
 go_enter Tryd.func74,Tryd.ntmps74
 go_wp2
 go_ret
 exact ⟨rfl,rfl⟩
set_option maxHeartbeats 1000000 in
theorem pfloats10 (op:Int) (w:World) (h:91<=op/\op<=102):Calls Tryd.prog 74 #[.int .i64 op] w fun e w'=>e=.returned (.bool true)/\w'=w:=by
 have q42:(op == 42)=false:=by rw [beq_eq_false_iff_ne];omega
 have q43:(op == 43)=false:=by rw [beq_eq_false_iff_ne];omega
 have q56:(op == 56)=false:=by rw [beq_eq_false_iff_ne];omega
 have q57:(op == 57)=false:=by rw [beq_eq_false_iff_ne];omega
 have q67:(op == 67)=false:=by rw [beq_eq_false_iff_ne];omega
 have q68:(op == 68)=false:=by rw [beq_eq_false_iff_ne];omega
 have a91:decide ((91:Int)<=op)=true:=decide_eq_true (by omega)
 have b102:decide (op<=(102:Int))=true:=decide_eq_true (by omega)
 have a139:decide ((139:Int)<=op)=false:=decide_eq_false (by omega)
 have a168:decide ((168:Int)<=op)=false:=decide_eq_false (by omega)
 have a174:decide ((174:Int)<=op)=false:=decide_eq_false (by omega)
 clear h
 go_enter Tryd.func74,Tryd.ntmps74
 go_wp2
 go_ret
 exact ⟨rfl,rfl⟩
set_option maxHeartbeats 1000000 in
theorem pfloats11 (op:Int) (w:World) (h:103<=op/\op<=138):Calls Tryd.prog 74 #[.int .i64 op] w fun e w'=>e=.returned (.bool false)/\w'=w:=by
 have q42:(op == 42)=false:=by rw [beq_eq_false_iff_ne];omega
 have q43:(op == 43)=false:=by rw [beq_eq_false_iff_ne];omega
 have q56:(op == 56)=false:=by rw [beq_eq_false_iff_ne];omega
 have q57:(op == 57)=false:=by rw [beq_eq_false_iff_ne];omega
 have q67:(op == 67)=false:=by rw [beq_eq_false_iff_ne];omega
 have q68:(op == 68)=false:=by rw [beq_eq_false_iff_ne];omega
 have a91:decide ((91:Int)<=op)=true:=decide_eq_true (by omega)
 have b102:decide (op<=(102:Int))=false:=decide_eq_false (by omega)
 have a139:decide ((139:Int)<=op)=false:=decide_eq_false (by omega)
 have a168:decide ((168:Int)<=op)=false:=decide_eq_false (by omega)
 have a174:decide ((174:Int)<=op)=false:=decide_eq_false (by omega)
 clear h
 go_enter Tryd.func74,Tryd.ntmps74
 go_wp2
 go_ret
 exact ⟨rfl,rfl⟩
set_option maxHeartbeats 1000000 in
theorem pfloats12 (op:Int) (w:World) (h:139<=op/\op<=166):Calls Tryd.prog 74 #[.int .i64 op] w fun e w'=>e=.returned (.bool true)/\w'=w:=by
 have q42:(op == 42)=false:=by rw [beq_eq_false_iff_ne];omega
 have q43:(op == 43)=false:=by rw [beq_eq_false_iff_ne];omega
 have q56:(op == 56)=false:=by rw [beq_eq_false_iff_ne];omega
 have q57:(op == 57)=false:=by rw [beq_eq_false_iff_ne];omega
 have q67:(op == 67)=false:=by rw [beq_eq_false_iff_ne];omega
 have q68:(op == 68)=false:=by rw [beq_eq_false_iff_ne];omega
 have a91:decide ((91:Int)<=op)=true:=decide_eq_true (by omega)
 have b102:decide (op<=(102:Int))=false:=decide_eq_false (by omega)
 have a139:decide ((139:Int)<=op)=true:=decide_eq_true (by omega)
 have b166:decide (op<=(166:Int))=true:=decide_eq_true (by omega)
 have a168:decide ((168:Int)<=op)=false:=decide_eq_false (by omega)
 have a174:decide ((174:Int)<=op)=false:=decide_eq_false (by omega)
 clear h
 go_enter Tryd.func74,Tryd.ntmps74
 go_wp2
 go_ret
 exact ⟨rfl,rfl⟩
set_option maxHeartbeats 1000000 in
theorem pfloats13 (op:Int) (w:World) (h:167<=op/\op<=167):Calls Tryd.prog 74 #[.int .i64 op] w fun e w'=>e=.returned (.bool false)/\w'=w:=by
 obtain rfl:op=167:=by omega
 clear h
 go_enter Tryd.func74,Tryd.ntmps74
 go_wp2
 go_ret
 exact ⟨rfl,rfl⟩
set_option maxHeartbeats 1000000 in
theorem pfloats14 (op:Int) (w:World) (h:168<=op/\op<=171):Calls Tryd.prog 74 #[.int .i64 op] w fun e w'=>e=.returned (.bool true)/\w'=w:=by
 have q42:(op == 42)=false:=by rw [beq_eq_false_iff_ne];omega
 have q43:(op == 43)=false:=by rw [beq_eq_false_iff_ne];omega
 have q56:(op == 56)=false:=by rw [beq_eq_false_iff_ne];omega
 have q57:(op == 57)=false:=by rw [beq_eq_false_iff_ne];omega
 have q67:(op == 67)=false:=by rw [beq_eq_false_iff_ne];omega
 have q68:(op == 68)=false:=by rw [beq_eq_false_iff_ne];omega
 have a91:decide ((91:Int)<=op)=true:=decide_eq_true (by omega)
 have b102:decide (op<=(102:Int))=false:=decide_eq_false (by omega)
 have a139:decide ((139:Int)<=op)=true:=decide_eq_true (by omega)
 have b166:decide (op<=(166:Int))=false:=decide_eq_false (by omega)
 have a168:decide ((168:Int)<=op)=true:=decide_eq_true (by omega)
 have b171:decide (op<=(171:Int))=true:=decide_eq_true (by omega)
 have a174:decide ((174:Int)<=op)=false:=decide_eq_false (by omega)
 clear h
 go_enter Tryd.func74,Tryd.ntmps74
 go_wp2
 go_ret
 exact ⟨rfl,rfl⟩
set_option maxHeartbeats 1000000 in
theorem pfloats15 (op:Int) (w:World) (h:172<=op/\op<=173):Calls Tryd.prog 74 #[.int .i64 op] w fun e w'=>e=.returned (.bool false)/\w'=w:=by
 have q42:(op == 42)=false:=by rw [beq_eq_false_iff_ne];omega
 have q43:(op == 43)=false:=by rw [beq_eq_false_iff_ne];omega
 have q56:(op == 56)=false:=by rw [beq_eq_false_iff_ne];omega
 have q57:(op == 57)=false:=by rw [beq_eq_false_iff_ne];omega
 have q67:(op == 67)=false:=by rw [beq_eq_false_iff_ne];omega
 have q68:(op == 68)=false:=by rw [beq_eq_false_iff_ne];omega
 have a91:decide ((91:Int)<=op)=true:=decide_eq_true (by omega)
 have b102:decide (op<=(102:Int))=false:=decide_eq_false (by omega)
 have a139:decide ((139:Int)<=op)=true:=decide_eq_true (by omega)
 have b166:decide (op<=(166:Int))=false:=decide_eq_false (by omega)
 have a168:decide ((168:Int)<=op)=true:=decide_eq_true (by omega)
 have b171:decide (op<=(171:Int))=false:=decide_eq_false (by omega)
 have a174:decide ((174:Int)<=op)=false:=decide_eq_false (by omega)
 clear h
 go_enter Tryd.func74,Tryd.ntmps74
 go_wp2
 go_ret
 exact ⟨rfl,rfl⟩
set_option maxHeartbeats 1000000 in
theorem pfloats16 (op:Int) (w:World) (h:174<=op/\op<=191):Calls Tryd.prog 74 #[.int .i64 op] w fun e w'=>e=.returned (.bool true)/\w'=w:=by
 have q42:(op == 42)=false:=by rw [beq_eq_false_iff_ne];omega
 have q43:(op == 43)=false:=by rw [beq_eq_false_iff_ne];omega
 have q56:(op == 56)=false:=by rw [beq_eq_false_iff_ne];omega
 have q57:(op == 57)=false:=by rw [beq_eq_false_iff_ne];omega
 have q67:(op == 67)=false:=by rw [beq_eq_false_iff_ne];omega
 have q68:(op == 68)=false:=by rw [beq_eq_false_iff_ne];omega
 have a91:decide ((91:Int)<=op)=true:=decide_eq_true (by omega)
 have b102:decide (op<=(102:Int))=false:=decide_eq_false (by omega)
 have a139:decide ((139:Int)<=op)=true:=decide_eq_true (by omega)
 have b166:decide (op<=(166:Int))=false:=decide_eq_false (by omega)
 have a168:decide ((168:Int)<=op)=true:=decide_eq_true (by omega)
 have b171:decide (op<=(171:Int))=false:=decide_eq_false (by omega)
 have a174:decide ((174:Int)<=op)=true:=decide_eq_true (by omega)
 have b191:decide (op<=(191:Int))=true:=decide_eq_true (by omega)
 clear h
 go_enter Tryd.func74,Tryd.ntmps74
 go_wp2
 go_ret
 exact ⟨rfl,rfl⟩
set_option maxHeartbeats 1000000 in
theorem pfloats17 (op:Int) (w:World) (h:192<=op):Calls Tryd.prog 74 #[.int .i64 op] w fun e w'=>e=.returned (.bool false)/\w'=w:=by
 have q42:(op == 42)=false:=by rw [beq_eq_false_iff_ne];omega
 have q43:(op == 43)=false:=by rw [beq_eq_false_iff_ne];omega
 have q56:(op == 56)=false:=by rw [beq_eq_false_iff_ne];omega
 have q57:(op == 57)=false:=by rw [beq_eq_false_iff_ne];omega
 have q67:(op == 67)=false:=by rw [beq_eq_false_iff_ne];omega
 have q68:(op == 68)=false:=by rw [beq_eq_false_iff_ne];omega
 have a91:decide ((91:Int)<=op)=true:=decide_eq_true (by omega)
 have b102:decide (op<=(102:Int))=false:=decide_eq_false (by omega)
 have a139:decide ((139:Int)<=op)=true:=decide_eq_true (by omega)
 have b166:decide (op<=(166:Int))=false:=decide_eq_false (by omega)
 have a168:decide ((168:Int)<=op)=true:=decide_eq_true (by omega)
 have b171:decide (op<=(171:Int))=false:=decide_eq_false (by omega)
 have a174:decide ((174:Int)<=op)=true:=decide_eq_true (by omega)
 have b191:decide (op<=(191:Int))=false:=decide_eq_false (by omega)
 clear h
 go_enter Tryd.func74,Tryd.ntmps74
 go_wp2
 go_ret
 exact ⟨rfl,rfl⟩
theorem pfloats (op:Int) (w:World):Calls Tryd.prog 74 #[.int .i64 op] w fun e w'=>e=.returned (.bool (flt op))/\w'=w:=by
 by_cases c0:op<=41
 ·rw [show flt op=false from decide_eq_false (by omega)];exact pfloats0 op w (by omega)
 by_cases c1:op<=42
 ·rw [show flt op=true from decide_eq_true (by omega)];exact pfloats1 op w (by omega)
 by_cases c2:op<=43
 ·rw [show flt op=true from decide_eq_true (by omega)];exact pfloats2 op w (by omega)
 by_cases c3:op<=55
 ·rw [show flt op=false from decide_eq_false (by omega)];exact pfloats3 op w (by omega)
 by_cases c4:op<=56
 ·rw [show flt op=true from decide_eq_true (by omega)];exact pfloats4 op w (by omega)
 by_cases c5:op<=57
 ·rw [show flt op=true from decide_eq_true (by omega)];exact pfloats5 op w (by omega)
 by_cases c6:op<=66
 ·rw [show flt op=false from decide_eq_false (by omega)];exact pfloats6 op w (by omega)
 by_cases c7:op<=67
 ·rw [show flt op=true from decide_eq_true (by omega)];exact pfloats7 op w (by omega)
 by_cases c8:op<=68
 ·rw [show flt op=true from decide_eq_true (by omega)];exact pfloats8 op w (by omega)
 by_cases c9:op<=90
 ·rw [show flt op=false from decide_eq_false (by omega)];exact pfloats9 op w (by omega)
 by_cases c10:op<=102
 ·rw [show flt op=true from decide_eq_true (by omega)];exact pfloats10 op w (by omega)
 by_cases c11:op<=138
 ·rw [show flt op=false from decide_eq_false (by omega)];exact pfloats11 op w (by omega)
 by_cases c12:op<=166
 ·rw [show flt op=true from decide_eq_true (by omega)];exact pfloats12 op w (by omega)
 by_cases c13:op<=167
 ·rw [show flt op=false from decide_eq_false (by omega)];exact pfloats13 op w (by omega)
 by_cases c14:op<=171
 ·rw [show flt op=true from decide_eq_true (by omega)];exact pfloats14 op w (by omega)
 by_cases c15:op<=173
 ·rw [show flt op=false from decide_eq_false (by omega)];exact pfloats15 op w (by omega)
 by_cases c16:op<=191
 ·rw [show flt op=true from decide_eq_true (by omega)];exact pfloats16 op w (by omega)
 rw [show flt op=false from decide_eq_false (by omega)];exact pfloats17 op w (by omega)
end Go.Proofs.YtlcpagiljfpbpaaDoor

