/- Texts that the claim needs. -/
import Derived.Test.YtmfcojpjpgldhaaGreatDoorQEBy36
import Derived.Shelf.Spec.SlicesGrow
import Derived.Laws.AppendOwn
import Derived.Laws.AppendOwnNone
import Derived.OwnWalk
import Derived.Test.YtmfcojpjpgldhaaGreatDoorQEBy3
namespace Go.Proofs
open Go.RowKit Go.Shelf Go.Lib Go.Proofs.Tryz
namespace YtmfcojpjpgldhaaGreatDoor
open Go.RowKit aA
theorem Sr (s:ByteArray) (w:World) (hs:s.size<=9223372036854775807) (hT:ym w) :
  Calls prog 104 #[.string s] w λe w'=>e=.returned (.bool (nm s))/\Below w.heap.size w w':=by
 have cV:Calls prog 118 #[.string s] w _:=Any.utf8_ValidString Tryz.laysValid s w (by omega) hT;unfold nm;generalize Lib.validD s.data.toList=V at cV ⊢;have CV:=ag cV;clear cV;by_cases h0:s.size<=64
 ·have h0z:decide ((s.size:Int)<=64)=true:=by simp;omega
  rw [h0z,fN];go_enter func104,ntmps104;go_wp2_with fail;refine CV.out.mono ?_;rintro e w' ⟨rfl,hb⟩;go_wp2;go_ret;exact ⟨rfl,hb⟩
 have h0z:decide ((s.size:Int)<=64)=false:=by simp;omega
 rw [h0z,Bool.false_and];clear CV;go_enter func104,ntmps104;go_wp2;go_ret;exact ⟨rfl,Below.refl _ _⟩
end YtmfcojpjpgldhaaGreatDoor
shelf_lay_g Lays8.n4 Nm8 4 at Tryz 105 as Tryz.Nf
namespace YtmfcojpjpgldhaaGreatDoor
open Go.RowKit aA
namespace aA
def jJ:List gN->List Value
 | []=>[]
 | x :: r=>.int .i64 x.min :: .int .i64 x.max :: .bool x.has :: jJ r
theorem Hu:∀l:List gN,(jJ l).length=l.length*3
 | []=>rfl
 | x :: r=>by show (jJ r).length+1+1+1=(r.length+1)*3;rw [Hu r];omega
theorem Hv:∀a b:List gN,jJ (a++b)=jJ a++jJ b
 | [],_=>rfl
 | x :: r,b=>by show _ :: _ :: _ :: jJ (r++b)=_;rw [Hv r b];rfl
theorem Hw:∀(l:List gN) (u:Value),u ∈ jJ l->u.oneCell'=true
 | [],_,h=>by cases h
 | x :: r,u,h=>by
  simp only [jJ,pR] at h;rcases h with rfl|rfl|rfl|h
  ·rfl
  ·rfl
  ·rfl
  exact Hw r u h
theorem Ng:∀(l:List gN) (i:Nat) (x:gN),l[i]?=some x->(jJ l)[i*3]?=some (.int .i64 x.min)/\(jJ l)[i*3+1]?=some (.int .i64 x.max)/\(jJ l)[i*3+2]?=some (.bool x.has)
 | [],_,_,h=>by simp at h
 | y :: r,0,x,h=>by
  simp at h;subst h;exact ⟨rfl,rfl,rfl⟩
 | y :: r,i+1,x,h=>by
  have h':r[i]?=some x:=by simpa using h
  have:=Ng r i x h'
  have e:(i+1)*3=i*3+1+1+1:=by omega
  rw [e];simpa [jJ] using this
theorem Nh {w:World} {b off:Nat}:∀(l:List gN) (o:Nat),(∀(i:Nat) (x:gN),l[i]?=some x->gD w b (o+i*3) x)->∀j u,(jJ l)[j]?=some u->w.cell? ⟨b,o+j,none⟩=some u
 | [],_,_,_,_,h=>by simp [jJ] at h
 | x :: r,o,hx,j,u,h=>by
  have h0:=hx 0 x rfl
  match j,h with
  | 0,h=>simp [jJ] at h;subst h;simpa using h0.min
  | 1,h=>simp [jJ] at h;subst h;simpa using h0.max
  | 2,h=>simp [jJ] at h;subst h;simpa using h0.has
  | j+3,h =>
   have h':(jJ r)[j]?=some u:=by simpa [jJ] using h
   have:=Nh (b:=b) (off:=off) r (o+3) (λi y hy=>by
    have:=hx (i+1) y (by simpa using hy)
    rw [show o+3+i*3=o+(i+1)*3 by omega];exact this) j u h'
   rw [show o+(j+3)=o+3+j by omega];exact this
end aA
end YtmfcojpjpgldhaaGreatDoor
end Go.Proofs
namespace Go.Proofs.YtmfcojpjpgldhaaGreatDoor
open Go.RowKit Go.Shelf aA Go.Proofs.Tryz
set_option linter.unusedVariables false
set_option maxHeartbeats 2000000
namespace aA
def upto (L3 L4:List gN) (j:Nat):List gN:=if j=0 then [] else if j=1 then L3 else L3++L4
theorem Ni {B:Nat} {a w w':World} {v:Value} {n e:Nat} {xs:List Value} (h:Below B a w) (hown:w.ownsRow B e 3 v n xs) (hg:w.grownBy w' v.ownBlock) (hB:B<=w.heap.size):Below B a w' :=
 h.grown hg hB λk hk=>(hown.lt k hk).1
theorem addr_eq (g k o:Nat) (h:o=0+k):(⟨g,o,none⟩:Addr)=(⟨g,0,none⟩:Addr).add k:=by
 subst h;by_cases hk:k=0
 ·subst hk;rfl
 simp [Addr.add,hk]
theorem Y5 (g o k:Nat):(⟨g,o,none⟩:Addr).add k=⟨g,o+k,none⟩:=by
 by_cases hk:k=0
 ·subst hk;rfl
 simp [Addr.add,hk]
theorem Nj {w:World} {n c:Nat} {L:List gN} (h:Row 3 (gD w) (.slice none n c) L):L = []:=by
 rcases h.2 with ⟨h,_⟩|⟨_,_,_,h,_⟩
 ·exact h
 injection h with h;cases h
theorem Nk {w:World} {ad:Addr} {n c:Nat} {L:List gN} (h:Row 3 (gD w) (.slice (some ad) n c) L):∀jx ux,(jJ L)[jx]?=some ux->w.cell? (ad.add jx)=some ux:=by
 intro jx ux hx;rcases h.2 with ⟨h,_⟩|⟨bb,oo,cc,h,hcell⟩
 ·rw [h] at hx;simp [jJ] at hx
 injection h with h1;injection h1 with h1;subst h1
 have:=Nh (off:=0) L oo hcell jx ux hx
 rw [Y5 bb oo jx];exact this
theorem Y6 {w:World} {B e:Nat} {v:Value} {l:List gN} (h:w.ownsRow B e 3 v l.length (jJ l)) (hl:l.length<=9223372036854775807):∃o c,v=.slice o l.length c/\Row 3 (gD w) (.slice o l.length c) l:=by
 rcases h.2 with ⟨rfl,h0⟩|⟨g,cap,cur,rfl,_⟩
 ·obtain rfl:l = []:=mM.1 h0;exact ⟨none,0,rfl,hl,.inl ⟨rfl,none,0,rfl⟩⟩
 refine ⟨some ⟨g,0,none⟩,cap,rfl,hl,.inr ⟨g,0,cap,rfl,λi x hi=>?_⟩⟩;have hc:=h.cells (g:=g) rfl;have hg:=Ng l i x hi;refine ⟨?_,?_,?_⟩
 ·rw [addr_eq g (i*3) (0+i*3) rfl];exact hc _ _ hg.1
 ·rw [addr_eq g (i*3+1) (0+i*3+1) (by omega)];exact hc _ _ hg.2.1
 rw [addr_eq g (i*3+2) (0+i*3+2) (by omega)];exact hc _ _ hg.2.2
end aA
theorem Hy:(prog.info? 80).map (λi=>(i.zero,i.size,i.bytes))=some (some (.agg #[.int .i64 0,.int .i64 0,.bool false]),3,24):=by kernel_rfl
theorem Y7 (n:Nat) (h:n<=8192) (w:World):Calls prog 105 #[.slice none 0 0,.int .i64 n] w λe w' =>
  ∃v,e=.returned v/\w'.ownsRow w.heap.size 80 3 v 0 []/\Below w.heap.size w w':=by
 by_cases h0:n=0
 ·subst h0;refine (Any8.slices_Grow_room Tryz.Nf none 0 0 0 w (by omega) (by omega) (by omega) (by omega)).mono ?_;rintro e w' ⟨rfl,rfl⟩;exact ⟨_,rfl,World.ownsRow_nil _ _ _ _,Below.refl _ _⟩
 obtain ⟨i0,hi,hz,hs,hby⟩:=info_parts Hy;refine (Any8.slices_Grow_grow Tryz.Nf i0 _ hi hz (by omega) none 0 0 n [] w (by omega) (by omega) (by rw [hby];omega) (by omega) (by simp) (λ_=>rfl) (λa ha=>by cases ha)).mono ?_;rintro e w' ⟨rfl,rfl⟩;have hge:=grownCap_ge w (0+n) 0 80;have hle:=grownCap_le_maxLen w (0+n) 0 80 (by unfold maxLen;omega);refine ⟨_,rfl,World.ownsRow_made w.drew _ _ (aI _) hle ?_,(Below.refl _ w).drew.alloc (aI _) _⟩;simp only [Array.size_append,size_zeroCells];show 0+(0+n-0)*3+(grownCap w (0+n) 0 80-(0+n))*3=grownCap w (0+n) 0 80*3;omega
theorem Sm (L3 L4:List gN) (o3 o4:Option Addr) (c3 c4:Nat) (u:World) (b:Nat) (h3:Row 3 (gD u) (.slice o3 L3.length c3) L3) (h4:Row 3 (gD u) (.slice o4 L4.length c4) L4)
  (z3:o3=none->c3=0) (z4:o4=none->c4=0) (k0:u.cell? ⟨b,0,none⟩=some (.slice o3 L3.length c3)) (k1:u.cell? ⟨b,1,none⟩=some (.slice o4 L4.length c4)) (b3:L3.length<=4096) (b4:L4.length<=4096) :
  Calls prog 71 #[.slice (some ⟨b,0,none⟩) 2 2] u λe u' =>
   (∃o c,e=.returned (.slice o (L3++L4).length c)/\Row 3 (gD u') (.slice o (L3++L4).length c) (L3++L4))/\Below u.heap.size u u':=by
 have H3:=ag h3;have H4:=ag h4;clear h3 h4;generalize ja:L3.length=n3 at *;generalize iG:L4.length=n4 at *;go_enter func71,ntmps71;go_wp2_with fail;go_loopw [3,11] (λt i wr=>∃j:Nat,j<=2/\i=.int .i64 j/\t=.int .i64 ((if j=0 then 0 else if j=1 then n3 else n3+n4:Nat):Int)/\wr=u) (λ_ i _=>2-(RowKit.intOf i).toNat)
 case atStart=>exact ⟨0,by omega,rfl,rfl,rfl⟩
 case round =>
  obtain ⟨j,hj,rfl,rfl,rfl⟩:=hrel;rcases (by omega:j=0\/j=1\/j=2) with rfl|rfl|rfl
  ·go_wp2;go_roundw
   case rel=>exact ⟨1,by omega,by go_num,by go_num,trivial⟩
   case measure=>simp [RowKit.intOf]
  ·go_wp2;go_roundw
   case rel=>exact ⟨2,by omega,by go_num,by go_num,trivial⟩
   case measure=>simp [RowKit.intOf]
  go_wp2_with fail;have HG:=ag (Y7 (n3+n4) (by omega) wr);rw [show (((n3+n4:Nat)):Int)=(n3:Int)+(n4:Int) by omega] at HG;refine HG.out.mono ?_;rintro e wg ⟨vg,rfl,hown,hbel⟩;have HO:Hid (wg.ownsRow wr.heap.size 80 3 vg (upto L3 L4 0).length (jJ (upto L3 L4 0))):=hown;have HB:=ag hbel;clear HG hown hbel;obtain ⟨ws,rfl⟩:∃ws,ws=wr:=⟨_,rfl⟩;go_wp2_with fail;go_loopw [6,27] (λt i wr=>∃j:Nat,j<=2/\i=.int .i64 j/\Hid (wr.ownsRow ws.heap.size 80 3 t (upto L3 L4 j).length (jJ (upto L3 L4 j)))/\Hid (Below ws.heap.size ws wr)) (λ_ i _=>2-(RowKit.intOf i).toNat)
  case atStart=>exact ⟨0,by omega,rfl,HO,HB⟩
  case round =>
   obtain ⟨j,hj,rfl,HOW,cK⟩:=hrel;rcases (by omega:j=0\/j=1\/j=2) with rfl|rfl|rfl
   ·have q0:wr.cell? ⟨b,0,none⟩=some (.slice o3 n3 c3):=aj cK.out k0;obtain ⟨i0,hi,hz0,hz1,hz2⟩:=info_parts Hy;have hsz:=cK.out.size;have Y8:(upto L3 L4 0).length<=8192:=by show 0<=_;omega
    have hup:Hid (upto L3 L4 1=upto L3 L4 0++L3):=rfl;have hnl:Hid (L3.length=n3):=ja;have vK:=ag (H3.out.imp λ_ _ _ _=>gD.on cK.out);cases o3 with
    | none =>
     obtain rfl:c3=0:=z3 rfl;have hnil:L3 = []:=Nj vK.out;have hn0:n3=0:=by rw [<- hnl.out,hnil];rfl
     rw [hn0] at q0;go_wp2_with (first|(at_builtin;refine wpList_append_own_none rfl _ _ 25 rfl ws.heap.size 80 i0 3 underlying25 hi _ _ _ rfl HOW.out rfl ?_))
     go_wp2;go_roundw
     case rel=>exact ⟨_,_,_,⟨1,by omega,rfl,HOW⟩,rfl,rfl,rfl⟩
     case measure=>simp [RowKit.intOf]
    | some ad =>
     have Hz:=ag (Nk vK.out);go_wp2_with (first|(at_builtin;refine wpList_append_own _ rfl _ _ 25 rfl ws.heap.size 80 i0 _ 3 24 underlying25 hi hz0 hz1 hz2 rfl (by decide) _ _ _ rfl HOW.out ad n3 c3 (jJ L3) rfl ?c0 Hz.out ?c2 ?c3 ?c4 ?c5 ?_))
     case c0=>rw [Hu,hnl.out]
     case c2=>exact Hw L3
     case c3=>unfold maxLen;omega
     case c4=>omega
     case c5=>omega
     intro v' w1 hown' hgrow _;have HB2:=ag (Ni cK.out HOW.out hgrow (by omega))
     have cu:Hid (w1.ownsRow ws.heap.size 80 3 v' (upto L3 L4 1).length (jJ (upto L3 L4 1))):=by
      rw [hup.out,Hv,aB,hnl.out];exact hown'
     clear hown' hgrow;go_wp2;go_roundw
     case rel=>exact ⟨1,by omega,by go_num,cu,HB2⟩
     case measure=>simp [RowKit.intOf]
   ·have q0:wr.cell? ⟨b,1,none⟩=some (.slice o4 n4 c4):=aj cK.out k1;obtain ⟨i0,hi,hz0,hz1,hz2⟩:=info_parts Hy;have hsz:=cK.out.size;have Y8:(upto L3 L4 1).length<=8192:=by show L3.length<=_;omega
    have hup:Hid (upto L3 L4 2=upto L3 L4 1++L4):=rfl;have hnl:Hid (L4.length=n4):=iG;have vK:=ag (H4.out.imp λ_ _ _ _=>gD.on cK.out);cases o4 with
    | none =>
     obtain rfl:c4=0:=z4 rfl;have hnil:L4 = []:=Nj vK.out;have hn0:n4=0:=by rw [<- hnl.out,hnil];rfl
     rw [hn0] at q0;go_wp2_with (first|(at_builtin;refine wpList_append_own_none rfl _ _ 25 rfl ws.heap.size 80 i0 3 underlying25 hi _ _ _ rfl HOW.out rfl ?_))
     go_wp2;go_roundw
     case rel=>exact ⟨_,_,_,⟨2,by omega,rfl,by show Hid (World.ownsRow _ _ _ _ _ (L3++[]).length (jJ (L3++[])));rw [List.append_nil];exact HOW⟩,rfl,rfl,rfl⟩
     case measure=>simp [RowKit.intOf]
    | some ad =>
     have Hz:=ag (Nk vK.out);go_wp2_with (first|(at_builtin;refine wpList_append_own _ rfl _ _ 25 rfl ws.heap.size 80 i0 _ 3 24 underlying25 hi hz0 hz1 hz2 rfl (by decide) _ _ _ rfl HOW.out ad n4 c4 (jJ L4) rfl ?c0 Hz.out ?c2 ?c3 ?c4 ?c5 ?_))
     case c0=>rw [Hu,hnl.out]
     case c2=>exact Hw L4
     case c3=>unfold maxLen;omega
     case c4=>omega
     case c5=>omega
     intro v' w1 hown' hgrow _;have HB2:=ag (Ni cK.out HOW.out hgrow (by omega))
     have cu:Hid (w1.ownsRow ws.heap.size 80 3 v' (upto L3 L4 2).length (jJ (upto L3 L4 2))):=by
      rw [hup.out,Hv,aB,hnl.out];exact hown'
     clear hown' hgrow;go_wp2;go_roundw
     case rel=>exact ⟨2,by omega,by go_num,cu,HB2⟩
     case measure=>simp [RowKit.intOf]
   have hfin:=Y6 (l:=L3++L4) HOW.out (by rw [aB];omega);obtain ⟨of,cf,rfl,hrow⟩:=hfin;have Y9:=ag hrow;clear hrow;go_wp2;go_ret;exact ⟨⟨of,cf,rfl,Y9.out⟩,cK.out⟩
end Go.Proofs.YtmfcojpjpgldhaaGreatDoor
namespace Go.Proofs.YtmfcojpjpgldhaaGreatDoor
open Go.RowKit aA Go.Proofs.Tryz
set_option linter.unusedVariables false
set_option maxHeartbeats 1000000
namespace aA
def eu (op:Int):Bool:=decide ((69<=op/\op<=90)\/(103<=op/\op<=138)\/op=167\/op=172\/op=173)
def dm (op:Int):Bool:=decide (op=42\/op=43\/op=56\/op=57\/op=67\/op=68\/(91<=op/\op<=102)\/(139<=op/\op<=166)\/(168<=op/\op<=171)\/(174<=op/\op<=191))
end aA
structure gh (I:World->Prop):Prop where
 keep:∀ {w w':World},Below w.heap.size w w'->I w->I w'
 reckons:∀(op:Int) (w:World),I w->Calls prog 106 #[.int .i64 op] w λe w'=>e=.returned (.bool (eu op))/\Below w.heap.size w w'
theorem VV (op:Int) (w:World) (h:op<=41):Calls prog 107 #[.int .i64 op] w λe w'=>e=.returned (.bool false)/\w'=w:=by
 have kS:(op==42)=false:=ah (by omega);have kT:(op==43)=false:=ah (by omega);have kW:(op==56)=false:=ah (by omega);have kX:(op==57)=false:=ah (by omega);have kY:(op==67)=false:=ah (by omega);have kZ:(op==68)=false:=ah (by omega);have a91:decide ((91:Int)<=op)=false:=au (by omega);have a139:decide ((139:Int)<=op)=false:=au (by omega);have a168:decide ((168:Int)<=op)=false:=au (by omega);have vU:decide ((174:Int)<=op)=false:=au (by omega);clear h;go_enter func107,ntmps107;go_wp2;go_ret;exact ⟨rfl,rfl⟩
theorem VW (op:Int) (w:World) (h:42<=op/\op<=42):Calls prog 107 #[.int .i64 op] w λe w'=>e=.returned (.bool true)/\w'=w:=by
 obtain rfl:op=42:=by omega
 clear h;go_enter func107,ntmps107;go_wp2;go_ret;exact ⟨rfl,rfl⟩
theorem VX (op:Int) (w:World) (h:43<=op/\op<=43):Calls prog 107 #[.int .i64 op] w λe w'=>e=.returned (.bool true)/\w'=w:=by
 obtain rfl:op=43:=by omega
 clear h;go_enter func107,ntmps107;go_wp2;go_ret;exact ⟨rfl,rfl⟩
theorem VY (op:Int) (w:World) (h:44<=op/\op<=55):Calls prog 107 #[.int .i64 op] w λe w'=>e=.returned (.bool false)/\w'=w:=by
 have kS:(op==42)=false:=ah (by omega);have kT:(op==43)=false:=ah (by omega);have kW:(op==56)=false:=ah (by omega);have kX:(op==57)=false:=ah (by omega);have kY:(op==67)=false:=ah (by omega);have kZ:(op==68)=false:=ah (by omega);have a91:decide ((91:Int)<=op)=false:=au (by omega);have a139:decide ((139:Int)<=op)=false:=au (by omega);have a168:decide ((168:Int)<=op)=false:=au (by omega);have vU:decide ((174:Int)<=op)=false:=au (by omega);clear h;go_enter func107,ntmps107;go_wp2;go_ret;exact ⟨rfl,rfl⟩
theorem VZ (op:Int) (w:World) (h:56<=op/\op<=56):Calls prog 107 #[.int .i64 op] w λe w'=>e=.returned (.bool true)/\w'=w:=by
 obtain rfl:op=56:=by omega
 clear h;go_enter func107,ntmps107;go_wp2;go_ret;exact ⟨rfl,rfl⟩
theorem V2 (op:Int) (w:World) (h:57<=op/\op<=57):Calls prog 107 #[.int .i64 op] w λe w'=>e=.returned (.bool true)/\w'=w:=by
 obtain rfl:op=57:=by omega
 clear h;go_enter func107,ntmps107;go_wp2;go_ret;exact ⟨rfl,rfl⟩
theorem V3 (op:Int) (w:World) (h:58<=op/\op<=66):Calls prog 107 #[.int .i64 op] w λe w'=>e=.returned (.bool false)/\w'=w:=by
 have kS:(op==42)=false:=ah (by omega);have kT:(op==43)=false:=ah (by omega);have kW:(op==56)=false:=ah (by omega);have kX:(op==57)=false:=ah (by omega);have kY:(op==67)=false:=ah (by omega);have kZ:(op==68)=false:=ah (by omega);have a91:decide ((91:Int)<=op)=false:=au (by omega);have a139:decide ((139:Int)<=op)=false:=au (by omega);have a168:decide ((168:Int)<=op)=false:=au (by omega);have vU:decide ((174:Int)<=op)=false:=au (by omega);clear h;go_enter func107,ntmps107;go_wp2;go_ret;exact ⟨rfl,rfl⟩
theorem V4 (op:Int) (w:World) (h:67<=op/\op<=67):Calls prog 107 #[.int .i64 op] w λe w'=>e=.returned (.bool true)/\w'=w:=by
 obtain rfl:op=67:=by omega
 clear h;go_enter func107,ntmps107;go_wp2;go_ret;exact ⟨rfl,rfl⟩
theorem V5 (op:Int) (w:World) (h:68<=op/\op<=68):Calls prog 107 #[.int .i64 op] w λe w'=>e=.returned (.bool true)/\w'=w:=by
 obtain rfl:op=68:=by omega
 clear h;go_enter func107,ntmps107;go_wp2;go_ret;exact ⟨rfl,rfl⟩
theorem V6 (op:Int) (w:World) (h:69<=op/\op<=90):Calls prog 107 #[.int .i64 op] w λe w'=>e=.returned (.bool false)/\w'=w:=by
 have kS:(op==42)=false:=ah (by omega);have kT:(op==43)=false:=ah (by omega);have kW:(op==56)=false:=ah (by omega);have kX:(op==57)=false:=ah (by omega);have kY:(op==67)=false:=ah (by omega);have kZ:(op==68)=false:=ah (by omega);have a91:decide ((91:Int)<=op)=false:=au (by omega);have a139:decide ((139:Int)<=op)=false:=au (by omega);have a168:decide ((168:Int)<=op)=false:=au (by omega);have vU:decide ((174:Int)<=op)=false:=au (by omega);clear h;go_enter func107,ntmps107;go_wp2;go_ret;exact ⟨rfl,rfl⟩
theorem V7 (op:Int) (w:World) (h:91<=op/\op<=102):Calls prog 107 #[.int .i64 op] w λe w'=>e=.returned (.bool true)/\w'=w:=by
 have kS:(op==42)=false:=ah (by omega);have kT:(op==43)=false:=ah (by omega);have kW:(op==56)=false:=ah (by omega);have kX:(op==57)=false:=ah (by omega);have kY:(op==67)=false:=ah (by omega);have kZ:(op==68)=false:=ah (by omega);have a91:decide ((91:Int)<=op)=true:=aC (by omega);have Be:decide (op<=(102:Int))=true:=aC (by omega);have a139:decide ((139:Int)<=op)=false:=au (by omega);have a168:decide ((168:Int)<=op)=false:=au (by omega);have vU:decide ((174:Int)<=op)=false:=au (by omega);clear h;go_enter func107,ntmps107;go_wp2;go_ret;exact ⟨rfl,rfl⟩
theorem V8 (op:Int) (w:World) (h:103<=op/\op<=138):Calls prog 107 #[.int .i64 op] w λe w'=>e=.returned (.bool false)/\w'=w:=by
 have kS:(op==42)=false:=ah (by omega);have kT:(op==43)=false:=ah (by omega);have kW:(op==56)=false:=ah (by omega);have kX:(op==57)=false:=ah (by omega);have kY:(op==67)=false:=ah (by omega);have kZ:(op==68)=false:=ah (by omega);have a91:decide ((91:Int)<=op)=true:=aC (by omega);have Be:decide (op<=(102:Int))=false:=au (by omega);have a139:decide ((139:Int)<=op)=false:=au (by omega);have a168:decide ((168:Int)<=op)=false:=au (by omega);have vU:decide ((174:Int)<=op)=false:=au (by omega);clear h;go_enter func107,ntmps107;go_wp2;go_ret;exact ⟨rfl,rfl⟩
theorem V9 (op:Int) (w:World) (h:139<=op/\op<=166):Calls prog 107 #[.int .i64 op] w λe w'=>e=.returned (.bool true)/\w'=w:=by
 have kS:(op==42)=false:=ah (by omega);have kT:(op==43)=false:=ah (by omega);have kW:(op==56)=false:=ah (by omega);have kX:(op==57)=false:=ah (by omega);have kY:(op==67)=false:=ah (by omega);have kZ:(op==68)=false:=ah (by omega);have a91:decide ((91:Int)<=op)=true:=aC (by omega);have Be:decide (op<=(102:Int))=false:=au (by omega);have a139:decide ((139:Int)<=op)=true:=aC (by omega);have EI:decide (op<=(166:Int))=true:=aC (by omega);have a168:decide ((168:Int)<=op)=false:=au (by omega);have vU:decide ((174:Int)<=op)=false:=au (by omega);clear h;go_enter func107,ntmps107;go_wp2;go_ret;exact ⟨rfl,rfl⟩
theorem Wd (op:Int) (w:World) (h:167<=op/\op<=167):Calls prog 107 #[.int .i64 op] w λe w'=>e=.returned (.bool false)/\w'=w:=by
 obtain rfl:op=167:=by omega
 clear h;go_enter func107,ntmps107;go_wp2;go_ret;exact ⟨rfl,rfl⟩
theorem We (op:Int) (w:World) (h:168<=op/\op<=171):Calls prog 107 #[.int .i64 op] w λe w'=>e=.returned (.bool true)/\w'=w:=by
 have kS:(op==42)=false:=ah (by omega);have kT:(op==43)=false:=ah (by omega);have kW:(op==56)=false:=ah (by omega);have kX:(op==57)=false:=ah (by omega);have kY:(op==67)=false:=ah (by omega);have kZ:(op==68)=false:=ah (by omega);have a91:decide ((91:Int)<=op)=true:=aC (by omega);have Be:decide (op<=(102:Int))=false:=au (by omega);have a139:decide ((139:Int)<=op)=true:=aC (by omega);have EI:decide (op<=(166:Int))=false:=au (by omega);have a168:decide ((168:Int)<=op)=true:=aC (by omega);have G7:decide (op<=(171:Int))=true:=aC (by omega);have vU:decide ((174:Int)<=op)=false:=au (by omega);clear h;go_enter func107,ntmps107;go_wp2;go_ret;exact ⟨rfl,rfl⟩
theorem Wh (op:Int) (w:World) (h:172<=op/\op<=173):Calls prog 107 #[.int .i64 op] w λe w'=>e=.returned (.bool false)/\w'=w:=by
 have kS:(op==42)=false:=ah (by omega);have kT:(op==43)=false:=ah (by omega);have kW:(op==56)=false:=ah (by omega);have kX:(op==57)=false:=ah (by omega);have kY:(op==67)=false:=ah (by omega);have kZ:(op==68)=false:=ah (by omega);have a91:decide ((91:Int)<=op)=true:=aC (by omega);have Be:decide (op<=(102:Int))=false:=au (by omega);have a139:decide ((139:Int)<=op)=true:=aC (by omega);have EI:decide (op<=(166:Int))=false:=au (by omega);have a168:decide ((168:Int)<=op)=true:=aC (by omega);have G7:decide (op<=(171:Int))=false:=au (by omega);have vU:decide ((174:Int)<=op)=false:=au (by omega);clear h;go_enter func107,ntmps107;go_wp2;go_ret;exact ⟨rfl,rfl⟩
theorem Wi (op:Int) (w:World) (h:174<=op/\op<=191):Calls prog 107 #[.int .i64 op] w λe w'=>e=.returned (.bool true)/\w'=w:=by
 have kS:(op==42)=false:=ah (by omega);have kT:(op==43)=false:=ah (by omega);have kW:(op==56)=false:=ah (by omega);have kX:(op==57)=false:=ah (by omega);have kY:(op==67)=false:=ah (by omega);have kZ:(op==68)=false:=ah (by omega);have a91:decide ((91:Int)<=op)=true:=aC (by omega);have Be:decide (op<=(102:Int))=false:=au (by omega);have a139:decide ((139:Int)<=op)=true:=aC (by omega);have EI:decide (op<=(166:Int))=false:=au (by omega);have a168:decide ((168:Int)<=op)=true:=aC (by omega);have G7:decide (op<=(171:Int))=false:=au (by omega);have vU:decide ((174:Int)<=op)=true:=aC (by omega);have Wj:decide (op<=(191:Int))=true:=aC (by omega);clear h;go_enter func107,ntmps107;go_wp2;go_ret;exact ⟨rfl,rfl⟩
theorem Wl (op:Int) (w:World) (h:192<=op):Calls prog 107 #[.int .i64 op] w λe w'=>e=.returned (.bool false)/\w'=w:=by
 have kS:(op==42)=false:=ah (by omega);have kT:(op==43)=false:=ah (by omega);have kW:(op==56)=false:=ah (by omega);have kX:(op==57)=false:=ah (by omega);have kY:(op==67)=false:=ah (by omega);have kZ:(op==68)=false:=ah (by omega);have a91:decide ((91:Int)<=op)=true:=aC (by omega);have Be:decide (op<=(102:Int))=false:=au (by omega);have a139:decide ((139:Int)<=op)=true:=aC (by omega);have EI:decide (op<=(166:Int))=false:=au (by omega);have a168:decide ((168:Int)<=op)=true:=aC (by omega);have G7:decide (op<=(171:Int))=false:=au (by omega);have vU:decide ((174:Int)<=op)=true:=aC (by omega);have Wj:decide (op<=(191:Int))=false:=au (by omega);clear h;go_enter func107,ntmps107;go_wp2;go_ret;exact ⟨rfl,rfl⟩
theorem qc (op:Int) (w:World):Calls prog 107 #[.int .i64 op] w λe w'=>e=.returned (.bool (dm op))/\w'=w:=by
 by_cases c0:op<=41
 ·rw [show dm op=false from au (by omega)];exact VV op w (by omega)
 by_cases c1:op<=42
 ·rw [show dm op=true from aC (by omega)];exact VW op w (by omega)
 by_cases c2:op<=43
 ·rw [show dm op=true from aC (by omega)];exact VX op w (by omega)
 by_cases c3:op<=55
 ·rw [show dm op=false from au (by omega)];exact VY op w (by omega)
 by_cases c4:op<=56
 ·rw [show dm op=true from aC (by omega)];exact VZ op w (by omega)
 by_cases c5:op<=57
 ·rw [show dm op=true from aC (by omega)];exact V2 op w (by omega)
 by_cases c6:op<=66
 ·rw [show dm op=false from au (by omega)];exact V3 op w (by omega)
 by_cases c7:op<=67
 ·rw [show dm op=true from aC (by omega)];exact V4 op w (by omega)
 by_cases c8:op<=68
 ·rw [show dm op=true from aC (by omega)];exact V5 op w (by omega)
 by_cases c9:op<=90
 ·rw [show dm op=false from au (by omega)];exact V6 op w (by omega)
 by_cases c10:op<=102
 ·rw [show dm op=true from aC (by omega)];exact V7 op w (by omega)
 by_cases c11:op<=138
 ·rw [show dm op=false from au (by omega)];exact V8 op w (by omega)
 by_cases c12:op<=166
 ·rw [show dm op=true from aC (by omega)];exact V9 op w (by omega)
 by_cases c13:op<=167
 ·rw [show dm op=false from au (by omega)];exact Wd op w (by omega)
 by_cases c14:op<=171
 ·rw [show dm op=true from aC (by omega)];exact We op w (by omega)
 by_cases c15:op<=173
 ·rw [show dm op=false from au (by omega)];exact Wh op w (by omega)
 by_cases c16:op<=191
 ·rw [show dm op=true from aC (by omega)];exact Wi op w (by omega)
 rw [show dm op=false from au (by omega)];exact Wl op w (by omega)
theorem QI {I:World->Prop} (C:gh I) (op:Int) (w:World) (h:op<=-1) (hI:I w):Calls prog 73 #[.int .i64 op] w λe w'=>e=.returned (.int .i64 0)/\Below w.heap.size w w':=by
 have hp:eu op=false:=au (by omega);have hfl:dm op=false:=au (by omega);have HI:=ag hI;clear hI;have q0:(op==0)=false:=ah (by omega);have q1:(op==1)=false:=ah (by omega);have jg:(op==15)=false:=ah (by omega);have jh:(op==26)=false:=ah (by omega);have ji:(op==27)=false:=ah (by omega);have jk:(op==63)=false:=ah (by omega);have jl:(op==64)=false:=ah (by omega);have q2:(op==2)=false:=ah (by omega);have q3:(op==3)=false:=ah (by omega);have q4:(op==4)=false:=ah (by omega);have jm:(op==12)=false:=ah (by omega);have jo:(op==13)=false:=ah (by omega);have jq:(op==14)=false:=ah (by omega);have q16:(op==16)=false:=ah (by omega);have jr:(op==17)=false:=ah (by omega);have ju:(op==40)=false:=ah (by omega);have jv:(op==41)=false:=ah (by omega);have jw:(op==65)=false:=ah (by omega);have jy:(op==66)=false:=ah (by omega);have a32:decide ((32:Int)<=op)=false:=au (by omega);have qD:decide ((44:Int)<=op)=false:=au (by omega);have a58:decide ((58:Int)<=op)=false:=au (by omega);clear h;go_enter func73,ntmps73;go_wp2_with fail;refine (C.reckons _ _ HI.out).mono ?_;rintro e u ⟨rfl,hb⟩;have HB:=ag hb;clear hb;rw [hp];go_wp2_with fail;refine (qc _ _).mono ?_;rintro e u ⟨rfl,rfl⟩;rw [hfl];go_wp2;go_ret;exact ⟨rfl,HB.out⟩
theorem QJ {I:World->Prop} (C:gh I) (op:Int) (w:World) (h:0<=op/\op<=0) (hI:I w):Calls prog 73 #[.int .i64 op] w λe w'=>e=.returned (.int .i64 1)/\Below w.heap.size w w':=by
 have hp:eu op=false:=au (by omega);have hfl:dm op=false:=au (by omega);have HI:=ag hI;clear hI;obtain rfl:op=0:=by omega
 clear h;go_enter func73,ntmps73;go_wp2;go_ret;exact ⟨rfl,Below.refl _ _⟩
theorem QK {I:World->Prop} (C:gh I) (op:Int) (w:World) (h:1<=op/\op<=1) (hI:I w):Calls prog 73 #[.int .i64 op] w λe w'=>e=.returned (.int .i64 1)/\Below w.heap.size w w':=by
 have hp:eu op=false:=au (by omega);have hfl:dm op=false:=au (by omega);have HI:=ag hI;clear hI;obtain rfl:op=1:=by omega
 clear h;go_enter func73,ntmps73;go_wp2;go_ret;exact ⟨rfl,Below.refl _ _⟩
theorem QL {I:World->Prop} (C:gh I) (op:Int) (w:World) (h:2<=op/\op<=2) (hI:I w):Calls prog 73 #[.int .i64 op] w λe w'=>e=.returned (.int .i64 2)/\Below w.heap.size w w':=by
 have hp:eu op=false:=au (by omega);have hfl:dm op=false:=au (by omega);have HI:=ag hI;clear hI;obtain rfl:op=2:=by omega
 clear h;go_enter func73,ntmps73;go_wp2_with fail;refine (C.reckons _ _ HI.out).mono ?_;rintro e u ⟨rfl,hb⟩;have HB:=ag hb;clear hb;rw [hp];go_wp2;go_ret;exact ⟨rfl,HB.out⟩
theorem QM {I:World->Prop} (C:gh I) (op:Int) (w:World) (h:3<=op/\op<=3) (hI:I w):Calls prog 73 #[.int .i64 op] w λe w'=>e=.returned (.int .i64 2)/\Below w.heap.size w w':=by
 have hp:eu op=false:=au (by omega);have hfl:dm op=false:=au (by omega);have HI:=ag hI;clear hI;obtain rfl:op=3:=by omega
 clear h;go_enter func73,ntmps73;go_wp2_with fail;refine (C.reckons _ _ HI.out).mono ?_;rintro e u ⟨rfl,hb⟩;have HB:=ag hb;clear hb;rw [hp];go_wp2;go_ret;exact ⟨rfl,HB.out⟩
theorem QN {I:World->Prop} (C:gh I) (op:Int) (w:World) (h:4<=op/\op<=4) (hI:I w):Calls prog 73 #[.int .i64 op] w λe w'=>e=.returned (.int .i64 3)/\Below w.heap.size w w':=by
 have hp:eu op=false:=au (by omega);have hfl:dm op=false:=au (by omega);have HI:=ag hI;clear hI;obtain rfl:op=4:=by omega
 clear h;go_enter func73,ntmps73;go_wp2_with fail;refine (C.reckons _ _ HI.out).mono ?_;rintro e u ⟨rfl,hb⟩;have HB:=ag hb;clear hb;rw [hp];go_wp2;go_ret;exact ⟨rfl,HB.out⟩
theorem QO {I:World->Prop} (C:gh I) (op:Int) (w:World) (h:5<=op/\op<=11) (hI:I w):Calls prog 73 #[.int .i64 op] w λe w'=>e=.returned (.int .i64 0)/\Below w.heap.size w w':=by
 have hp:eu op=false:=au (by omega);have hfl:dm op=false:=au (by omega);have HI:=ag hI;clear hI;have q0:(op==0)=false:=ah (by omega);have q1:(op==1)=false:=ah (by omega);have jg:(op==15)=false:=ah (by omega);have jh:(op==26)=false:=ah (by omega);have ji:(op==27)=false:=ah (by omega);have jk:(op==63)=false:=ah (by omega);have jl:(op==64)=false:=ah (by omega);have q2:(op==2)=false:=ah (by omega);have q3:(op==3)=false:=ah (by omega);have q4:(op==4)=false:=ah (by omega);have jm:(op==12)=false:=ah (by omega);have jo:(op==13)=false:=ah (by omega);have jq:(op==14)=false:=ah (by omega);have q16:(op==16)=false:=ah (by omega);have jr:(op==17)=false:=ah (by omega);have ju:(op==40)=false:=ah (by omega);have jv:(op==41)=false:=ah (by omega);have jw:(op==65)=false:=ah (by omega);have jy:(op==66)=false:=ah (by omega);have a32:decide ((32:Int)<=op)=false:=au (by omega);have qD:decide ((44:Int)<=op)=false:=au (by omega);have a58:decide ((58:Int)<=op)=false:=au (by omega);clear h;go_enter func73,ntmps73;go_wp2_with fail;refine (C.reckons _ _ HI.out).mono ?_;rintro e u ⟨rfl,hb⟩;have HB:=ag hb;clear hb;rw [hp];go_wp2_with fail;refine (qc _ _).mono ?_;rintro e u ⟨rfl,rfl⟩;rw [hfl];go_wp2;go_ret;exact ⟨rfl,HB.out⟩
theorem QP {I:World->Prop} (C:gh I) (op:Int) (w:World) (h:12<=op/\op<=12) (hI:I w):Calls prog 73 #[.int .i64 op] w λe w'=>e=.returned (.int .i64 4)/\Below w.heap.size w w':=by
 have hp:eu op=false:=au (by omega);have hfl:dm op=false:=au (by omega);have HI:=ag hI;clear hI;obtain rfl:op=12:=by omega
 clear h;go_enter func73,ntmps73;go_wp2_with fail;refine (C.reckons _ _ HI.out).mono ?_;rintro e u ⟨rfl,hb⟩;have HB:=ag hb;clear hb;rw [hp];go_wp2;go_ret;exact ⟨rfl,HB.out⟩
theorem QQ {I:World->Prop} (C:gh I) (op:Int) (w:World) (h:13<=op/\op<=13) (hI:I w):Calls prog 73 #[.int .i64 op] w λe w'=>e=.returned (.int .i64 4)/\Below w.heap.size w w':=by
 have hp:eu op=false:=au (by omega);have hfl:dm op=false:=au (by omega);have HI:=ag hI;clear hI;obtain rfl:op=13:=by omega
 clear h;go_enter func73,ntmps73;go_wp2_with fail;refine (C.reckons _ _ HI.out).mono ?_;rintro e u ⟨rfl,hb⟩;have HB:=ag hb;clear hb;rw [hp];go_wp2;go_ret;exact ⟨rfl,HB.out⟩
theorem QR {I:World->Prop} (C:gh I) (op:Int) (w:World) (h:14<=op/\op<=14) (hI:I w):Calls prog 73 #[.int .i64 op] w λe w'=>e=.returned (.int .i64 5)/\Below w.heap.size w w':=by
 have hp:eu op=false:=au (by omega);have hfl:dm op=false:=au (by omega);have HI:=ag hI;clear hI;obtain rfl:op=14:=by omega
 clear h;go_enter func73,ntmps73;go_wp2_with fail;refine (C.reckons _ _ HI.out).mono ?_;rintro e u ⟨rfl,hb⟩;have HB:=ag hb;clear hb;rw [hp];go_wp2;go_ret;exact ⟨rfl,HB.out⟩
theorem QS {I:World->Prop} (C:gh I) (op:Int) (w:World) (h:15<=op/\op<=15) (hI:I w):Calls prog 73 #[.int .i64 op] w λe w'=>e=.returned (.int .i64 1)/\Below w.heap.size w w':=by
 have hp:eu op=false:=au (by omega);have hfl:dm op=false:=au (by omega);have HI:=ag hI;clear hI;obtain rfl:op=15:=by omega
 clear h;go_enter func73,ntmps73;go_wp2;go_ret;exact ⟨rfl,Below.refl _ _⟩
theorem QT {I:World->Prop} (C:gh I) (op:Int) (w:World) (h:16<=op/\op<=16) (hI:I w):Calls prog 73 #[.int .i64 op] w λe w'=>e=.returned (.int .i64 6)/\Below w.heap.size w w':=by
 have hp:eu op=false:=au (by omega);have hfl:dm op=false:=au (by omega);have HI:=ag hI;clear hI;obtain rfl:op=16:=by omega
 clear h;go_enter func73,ntmps73;go_wp2_with fail;refine (C.reckons _ _ HI.out).mono ?_;rintro e u ⟨rfl,hb⟩;have HB:=ag hb;clear hb;rw [hp];go_wp2;go_ret;exact ⟨rfl,HB.out⟩
theorem QU {I:World->Prop} (C:gh I) (op:Int) (w:World) (h:17<=op/\op<=17) (hI:I w):Calls prog 73 #[.int .i64 op] w λe w'=>e=.returned (.int .i64 7)/\Below w.heap.size w w':=by
 have hp:eu op=false:=au (by omega);have hfl:dm op=false:=au (by omega);have HI:=ag hI;clear hI;obtain rfl:op=17:=by omega
 clear h;go_enter func73,ntmps73;go_wp2_with fail;refine (C.reckons _ _ HI.out).mono ?_;rintro e u ⟨rfl,hb⟩;have HB:=ag hb;clear hb;rw [hp];go_wp2;go_ret;exact ⟨rfl,HB.out⟩
theorem QV {I:World->Prop} (C:gh I) (op:Int) (w:World) (h:18<=op/\op<=25) (hI:I w):Calls prog 73 #[.int .i64 op] w λe w'=>e=.returned (.int .i64 0)/\Below w.heap.size w w':=by
 have hp:eu op=false:=au (by omega);have hfl:dm op=false:=au (by omega);have HI:=ag hI;clear hI;have q0:(op==0)=false:=ah (by omega);have q1:(op==1)=false:=ah (by omega);have jg:(op==15)=false:=ah (by omega);have jh:(op==26)=false:=ah (by omega);have ji:(op==27)=false:=ah (by omega);have jk:(op==63)=false:=ah (by omega);have jl:(op==64)=false:=ah (by omega);have q2:(op==2)=false:=ah (by omega);have q3:(op==3)=false:=ah (by omega);have q4:(op==4)=false:=ah (by omega);have jm:(op==12)=false:=ah (by omega);have jo:(op==13)=false:=ah (by omega);have jq:(op==14)=false:=ah (by omega);have q16:(op==16)=false:=ah (by omega);have jr:(op==17)=false:=ah (by omega);have ju:(op==40)=false:=ah (by omega);have jv:(op==41)=false:=ah (by omega);have jw:(op==65)=false:=ah (by omega);have jy:(op==66)=false:=ah (by omega);have a32:decide ((32:Int)<=op)=false:=au (by omega);have qD:decide ((44:Int)<=op)=false:=au (by omega);have a58:decide ((58:Int)<=op)=false:=au (by omega);clear h;go_enter func73,ntmps73;go_wp2_with fail;refine (C.reckons _ _ HI.out).mono ?_;rintro e u ⟨rfl,hb⟩;have HB:=ag hb;clear hb;rw [hp];go_wp2_with fail;refine (qc _ _).mono ?_;rintro e u ⟨rfl,rfl⟩;rw [hfl];go_wp2;go_ret;exact ⟨rfl,HB.out⟩
end Go.Proofs.YtmfcojpjpgldhaaGreatDoor
