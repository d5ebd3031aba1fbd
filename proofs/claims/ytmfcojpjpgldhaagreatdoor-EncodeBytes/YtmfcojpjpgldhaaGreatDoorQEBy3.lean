/- Texts that the claim needs. -/
import Derived.Test.YtmfcojpjpgldhaaGreatDoorQEBy2
import Derived.Test.YtmfcojpjpgldhaaGreatDoorQEBy0
import Derived.WalkKit
import Derived.Laws.BitsAllLaws
import Derived.Test.YtmfcojpjpgldhaaGreatDoorRows
import Derived.WalkSpells
import Derived.WalkSmall
import Derived.BigQuiet
import Derived.Deep.QuietTactic
import Derived.Deep.RegionWith
namespace Go.Proofs.YtmfcojpjpgldhaaGreatDoor
open Go.RowKit aA Go.Proofs.Tryz
set_option linter.unusedVariables false
set_option maxHeartbeats 2000000
namespace aA
def few (n:Int):Bool:=decide (n<=4096)
end aA
theorem CN (v:Value) (l:List Int) (w:World) (hAt:Ints w v l) :
  Calls prog 28 #[v] w λe w'=>iN (l.all few) 3 e/\w'=w:=by
 have hlen:=hAt.1;obtain ⟨o,cap,hv⟩:=Row.len hAt;have hs:=Row.some hAt;subst hv;obtain ⟨R,hR⟩:∃R,R=l.all few:=⟨_,rfl⟩;rw [<- hR];have HR:Hid (R=(l.drop 0).all few):=hR;have HX:=ag hs;clear hs hAt hR;generalize hn:l.length=n at *;go_enter func28,ntmps28;go_wp2_with fail;go_loopw [6] (λi wr=>∃j:Nat,j<=n/\i=.int .i64 j/\Hid (R=(l.drop j).all few)/\wr=w) (λi _=>n-(RowKit.intOf i).toNat)
 case atStart=>exact ⟨0,by omega,rfl,HR,rfl⟩
 case round =>
  obtain ⟨j,hj,rfl,HK,rfl⟩:=hrel;by_cases hgo:j<n
  ·obtain ⟨b,off,cap2,hv2,hx⟩:=HX.out (by omega);injection hv2 with ho h2 h3;subst ho;obtain ⟨x,hxk⟩:∃x,l[j]?=some x:=⟨_,aY (by omega)⟩;have hc:=hx j x hxk;rw [Nat.mul_one] at hc;have HN:=ag (gK hxk HK.out);clear hx hxk HK HX h2 h3;by_cases h1:x<=4096
   ·have hp:few x=true:=by simp [few,h1]
    have d1:decide (x<=4096)=true:=by simp [h1]
    have lQ:Hid (R=(l.drop (j+1)).all few):=by have:=HN.out;rw [hp,fN] at this;exact this
    clear HN hp;go_wp2_with fail;refine (gJ true _ _).mono ?_;rintro e u ⟨⟨_,rfl⟩|⟨hf,_⟩,rfl⟩
    ·go_wp2;go_roundw
     case rel=>exact ⟨j+1,by omega,by go_num,lQ,trivial⟩
     case measure=>simp [RowKit.intOf];omega
    cases hf
   have hp:few x=false:=by simp [few];omega
   have d1:decide (x<=4096)=false:=by simp;omega
   have HF:R=false:=by have:=HN.out;rw [hp,Bool.false_and] at this;exact this
   have qH:=ag HF;clear HN hp HF;go_wp2_with fail;refine (gJ false _ _).mono ?_;rintro e u ⟨⟨hf,_⟩|⟨_,rfl⟩,rfl⟩
   ·cases hf
   go_wp2;exact ⟨rfl,.inr ⟨qH.out,rfl⟩,rfl⟩
  have HE:R=true:=oQ (by omega) HK.out;have kH:=ag HE;clear HE HK;go_wp2;go_end0;exact ⟨.inl ⟨kH.out,rfl⟩,rfl⟩
theorem Cw (v:Value) (l:List Int) (w:World) (hAt:Ints w v l) :
  Calls prog 68 #[v] w λe w'=>iN (l.all typ) 30 e/\w'=w:=by
 have hlen:=hAt.1;obtain ⟨o,cap,hv⟩:=Row.len hAt;have hs:=Row.some hAt;subst hv;obtain ⟨R,hR⟩:∃R,R=l.all typ:=⟨_,rfl⟩;rw [<- hR];have HR:Hid (R=(l.drop 0).all typ):=hR;have HX:=ag hs;clear hs hAt hR;generalize hn:l.length=n at *;go_enter func68,ntmps68;go_wp2_with fail;go_loopw [6] (λi wr=>∃j:Nat,j<=n/\i=.int .i64 j/\Hid (R=(l.drop j).all typ)/\wr=w) (λi _=>n-(RowKit.intOf i).toNat)
 case atStart=>exact ⟨0,by omega,rfl,HR,rfl⟩
 case round =>
  obtain ⟨j,hj,rfl,HK,rfl⟩:=hrel;by_cases hgo:j<n
  ·obtain ⟨b,off,cap2,hv2,hx⟩:=HX.out (by omega);injection hv2 with ho h2 h3;subst ho;obtain ⟨x,hxk⟩:∃x,l[j]?=some x:=⟨_,aY (by omega)⟩;have hc:=hx j x hxk;rw [Nat.mul_one] at hc;have HN:=ag (gK hxk HK.out);clear hx hxk HK HX h2 h3;by_cases h1:x=127
   ·have hp:typ x=true:=by simp [typ,h1]
    have d1:(x==127)=true:=by simp [h1]
    clear h1;have lQ:Hid (R=(l.drop (j+1)).all typ):=by have:=HN.out;rw [hp,fN] at this;exact this
    clear HN hp;go_wp2_with fail;refine (gJ true _ _).mono ?_;rintro e u ⟨⟨_,rfl⟩|⟨hf,_⟩,rfl⟩
    ·go_wp2;go_roundw
     case rel=>exact ⟨j+1,by omega,by go_num,lQ,trivial⟩
     case measure=>simp [RowKit.intOf];omega
    cases hf
   have d1:(x==127)=false:=by simp [h1]
   by_cases h2:x=126
   ·have hp:typ x=true:=by simp [typ,h2]
    have d2:(x==126)=true:=by simp [h2]
    clear h1 h2;have lQ:Hid (R=(l.drop (j+1)).all typ):=by have:=HN.out;rw [hp,fN] at this;exact this
    clear HN hp;go_wp2_with fail;refine (gJ true _ _).mono ?_;rintro e u ⟨⟨_,rfl⟩|⟨hf,_⟩,rfl⟩
    ·go_wp2;go_roundw
     case rel=>exact ⟨j+1,by omega,by go_num,lQ,trivial⟩
     case measure=>simp [RowKit.intOf];omega
    cases hf
   have hp:typ x=false:=by simp [typ,h1,h2]
   have d2:(x==126)=false:=by simp [h2]
   clear h1 h2;have HF:R=false:=by have:=HN.out;rw [hp,Bool.false_and] at this;exact this
   have qH:=ag HF;clear HN hp HF;go_wp2_with fail;refine (gJ false _ _).mono ?_;rintro e u ⟨⟨hf,_⟩|⟨_,rfl⟩,rfl⟩
   ·cases hf
   go_wp2;exact ⟨rfl,.inr ⟨qH.out,rfl⟩,rfl⟩
  have HE:R=true:=oQ (by omega) HK.out;have kH:=ag HE;clear HE HK;go_wp2;go_end0;exact ⟨.inl ⟨kH.out,rfl⟩,rfl⟩
theorem sK (v:Value) (l:List Int) (w:World) (hAt:Ints w v l) :
  Calls prog 70 #[v] w λe w'=>iN (l.all idx) 30 e/\w'=w:=by
 have hlen:=hAt.1;obtain ⟨o,cap,hv⟩:=Row.len hAt;have hs:=Row.some hAt;subst hv;obtain ⟨R,hR⟩:∃R,R=l.all idx:=⟨_,rfl⟩;rw [<- hR];have HR:Hid (R=(l.drop 0).all idx):=hR;have HX:=ag hs;clear hs hAt hR;generalize hn:l.length=n at *;go_enter func70,ntmps70;go_wp2_with fail;go_loopw [6] (λi wr=>∃j:Nat,j<=n/\i=.int .i64 j/\Hid (R=(l.drop j).all idx)/\wr=w) (λi _=>n-(RowKit.intOf i).toNat)
 case atStart=>exact ⟨0,by omega,rfl,HR,rfl⟩
 case round =>
  obtain ⟨j,hj,rfl,HK,rfl⟩:=hrel;by_cases hgo:j<n
  ·obtain ⟨b,off,cap2,hv2,hx⟩:=HX.out (by omega);injection hv2 with ho h2 h3;subst ho;obtain ⟨x,hxk⟩:∃x,l[j]?=some x:=⟨_,aY (by omega)⟩;have hc:=hx j x hxk;rw [Nat.mul_one] at hc;have HN:=ag (gK hxk HK.out);clear hx hxk HK HX h2 h3;by_cases h1:0<=x
   ·have d1:decide (0<=x)=true:=by simp [h1]
    by_cases h2:x<=4294967295
    ·have hp:idx x=true:=by simp [idx,h1,h2]
     have d2:decide (x<=4294967295)=true:=by simp [h2]
     have lQ:Hid (R=(l.drop (j+1)).all idx):=by have:=HN.out;rw [hp,fN] at this;exact this
     clear HN hp;go_wp2_with fail;refine (gJ true _ _).mono ?_;rintro e u ⟨⟨_,rfl⟩|⟨hf,_⟩,rfl⟩
     ·go_wp2;go_roundw
      case rel=>exact ⟨j+1,by omega,by go_num,lQ,trivial⟩
      case measure=>simp [RowKit.intOf];omega
     cases hf
    have hp:idx x=false:=by simp [idx];omega
    have d2:decide (x<=4294967295)=false:=by simp;omega
    have HF:R=false:=by have:=HN.out;rw [hp,Bool.false_and] at this;exact this
    have qH:=ag HF;clear HN hp HF;go_wp2_with fail;refine (gJ false _ _).mono ?_;rintro e u ⟨⟨hf,_⟩|⟨_,rfl⟩,rfl⟩
    ·cases hf
    go_wp2;exact ⟨rfl,.inr ⟨qH.out,rfl⟩,rfl⟩
   have hp:idx x=false:=by simp [idx];omega
   have d1:decide (0<=x)=false:=by simp;omega
   have HF:R=false:=by have:=HN.out;rw [hp,Bool.false_and] at this;exact this
   have qH:=ag HF;clear HN hp HF;go_wp2_with fail;refine (gJ false _ _).mono ?_;rintro e u ⟨⟨hf,_⟩|⟨_,rfl⟩,rfl⟩
   ·cases hf
   go_wp2;exact ⟨rfl,.inr ⟨qH.out,rfl⟩,rfl⟩
  have HE:R=true:=oQ (by omega) HK.out;have kH:=ag HE;clear HE HK;go_wp2;go_end0;exact ⟨.inl ⟨kH.out,rfl⟩,rfl⟩
namespace aA
theorem oP (w:World) (t:TypeId) (b cap:Nat) (zs:List Int) (hb:b=w.heap.size) (hl:zs.length<=9223372036854775807):Ints (w.alloc (.cells (zs.map λz=>Value.int .i64 z).toArray t)) (.slice (some ⟨b,0,none⟩) zs.length cap) zs:=by
 refine ⟨hl,.inr ⟨b,0,cap,rfl,λi x hi=>?_⟩⟩;show (w.alloc (.cells (zs.map λz=>Value.int .i64 z).toArray t)).cell? ⟨b,0+i*1,none⟩=_;rw [World.cell?_alloc_at _ t _ _ hb];simp [hi]
theorem NW (w:World) (cb:Nat) (u:Value) (o:Obj):Kp (λk=>k=cb) w ((w.setCell ⟨cb,0,none⟩ u).alloc o):=by
 have h0:Below 0 w (w.setCell ⟨cb,0,none⟩ u):=(Below.refl 0 w).setCell (p:=⟨cb,0,none⟩) (Nat.zero_le _) u;have h:Kp (λk=>k=cb) w (w.setCell ⟨cb,0,none⟩ u):=⟨h0.os,h0.tape,h0.output,h0.size,λk _ hs=>Below.heap_setCell w _ u k hs⟩;exact h.alloc o
theorem aae (w:World) (cb:Nat) (u:Value) (o:Obj) (hb:cb<w.heap.size) (h:(w.cell? ⟨cb,0,none⟩).isSome=true):((w.setCell ⟨cb,0,none⟩ u).alloc o).cell? ⟨cb,0,none⟩=some u:=by
 rw [World.cell?_alloc_past o cb 0 (by simpa using hb)];exact World.cell?_setCell_same' w _ u h
theorem aaf (w:World) (cb:Nat) (u:Value) (o:Obj) (hb:cb<w.heap.size) (h:w.frozen? ⟨cb,0,none⟩=false):((w.setCell ⟨cb,0,none⟩ u).alloc o).frozen? ⟨cb,0,none⟩=false:=by
 have hk:cb<(w.setCell ⟨cb,0,none⟩ u).heap.size:=by simpa using hb
 rw [((Below.refl _ (w.setCell ⟨cb,0,none⟩ u)).alloc (aI _) o).frozen (p:=⟨cb,0,none⟩) hk,World.frozen?_setCell];exact h
theorem NY {S:Nat->Prop} (w:World) (o p:Obj):Kp S w ((w.alloc o).alloc p):=((Kp.refl S w).alloc o).alloc p
end aA
def vW (_:Unit) (x:Sn) (_:Nat):Option Unit:=if few x.labels.length=true then some () else none
def yR (_:Unit) (_:Sn) (k:Nat):Option Unit:=if k<=64 then some () else none
def kG (c:Nat) (_:Sn) (_:Nat):Option Nat:=if c+1<=65536 then some (c+1) else none
theorem YQ (w0:World):qg 29 (λx y=>#[x,y]) w0 (λ_=>False) (λ(_:Unit) _=>True) yR 4:=by
 intro s x lv bv ev dep w hb _ hl hbv hev hd;obtain ⟨lo,lc,rfl⟩:=Row.len hl;obtain ⟨bo,bc,rfl⟩:=hbv;obtain ⟨eo,ec,rfl⟩:=hev;generalize hS:yR s x dep=R;unfold yR at hS;clear hl hb;by_cases hk:dep<=64
 ·rw [if_pos hk] at hS;have hd':decide ((dep:Int)<=64)=true:=by simp;omega
  have HS:=ag hS;clear hS;go_enter func29,ntmps29;go_wp2_with fail;refine (gJ true _ _).mono ?_;rintro e u ⟨⟨_,rfl⟩|⟨hf,_⟩,rfl⟩
  ·go_wp2;go_end0;exact ⟨(Kp.refl _ w).alloc _,.inl ⟨(),HS.out.symm,rfl,trivial⟩⟩
  cases hf
 rw [if_neg hk] at hS;have hd':decide ((dep:Int)<=64)=false:=by simp;omega
 have HS:=ag hS;clear hS;go_enter func29,ntmps29;go_wp2_with fail;refine (gJ false _ _).mono ?_;rintro e u ⟨⟨hf,_⟩|⟨_,rfl⟩,rfl⟩
 ·cases hf
 go_wp2;exact ⟨rfl,(Kp.refl _ w).alloc _,.inr ⟨HS.out.symm,rfl⟩⟩
theorem YO (w0:World):qg 27 (λx y=>#[x,y]) w0 (λ_=>False) (λ(_:Unit) _=>True) vW 3:=by
 intro s x lv bv ev dep w hb _ hl hbv hev hd;have hlen:=hl.1;obtain ⟨lo,lc,rfl⟩:=Row.len hl;obtain ⟨bo,bc,rfl⟩:=hbv;obtain ⟨eo,ec,rfl⟩:=hev;generalize hS:vW s x dep=R;unfold vW at hS;have HS:=ag hS;clear hl hb hS;generalize x.labels.length=n at *;go_enter func27,ntmps27;go_wp2_with fail;refine (CN _ [(n:Int)] _ (oP _ _ _ _ _ (by simp) (by show 1<=_;omega))).mono ?_;rintro e u ⟨⟨hf,rfl⟩|⟨hf,rfl⟩,rfl⟩
 ·have HF:Hid (R=some ()):=by
   have:=HS.out;rw [if_pos (by simpa using hf)] at this;exact this.symm
  clear hf;go_wp2;go_end0;exact ⟨NY _ _ _,.inl ⟨(),HF.out,rfl,trivial⟩⟩
 have HF:Hid (R=none):=by
  have:=HS.out;rw [if_neg (by simpa using hf)] at this;exact this.symm
 clear hf;go_wp2;exact ⟨rfl,NY _ _ _,.inr ⟨HF.out,rfl⟩⟩
theorem UI (w0:World) (cb:Nat):qg 66 (λx y=>#[x,y,.pointer (some ⟨cb,0,none⟩)]) w0 (λk=>k=cb) (λ(c:Nat) w=>c<=65536/\w.cell? ⟨cb,0,none⟩=some (.int .i64 c)/\w.frozen? ⟨cb,0,none⟩=false) kG 3:=by
 intro s x lv bv ev dep w hb hi hl hbv hev hd;obtain ⟨hc,hcell,hfz⟩:=hi;obtain ⟨lo,lc,rfl⟩:=Row.len hl;obtain ⟨bo,bc,rfl⟩:=hbv;obtain ⟨eo,ec,rfl⟩:=hev;generalize hS:kG s x dep=R;unfold kG at hS;have HS:=ag hS;clear hl hb hS;generalize x.labels.length=n at *;have hcb:cb<w.heap.size:=World.block_lt_of_cell? _ _ hcell;by_cases hk:s+1<=65536
 ·have HF:Hid (R=some (s+1)):=by
   have:=HS.out;rw [if_pos hk] at this;exact this.symm
  have hd':decide ((s:Int)+1<=65536)=true:=by simp;omega
  clear HS;go_enter func66,ntmps66;go_wp2_with fail;refine (gJ true _ _).mono ?_;rintro e u ⟨⟨_,rfl⟩|⟨hf,_⟩,rfl⟩
  ·go_wp2;go_end0;exact ⟨NW _ _ _ _,.inl ⟨s+1,HF.out,rfl,hk,aae _ _ _ _ hcb (by rw [hcell];rfl),aaf _ _ _ _ hcb hfz⟩⟩
  cases hf
 have HF:Hid (R=none):=by
  have:=HS.out;rw [if_neg hk] at this;exact this.symm
 have hd':decide ((s:Int)+1<=65536)=false:=by simp;omega
 clear HS;go_enter func66,ntmps66;go_wp2_with fail;refine (gJ false _ _).mono ?_;rintro e u ⟨⟨hf,_⟩|⟨_,rfl⟩,rfl⟩
 ·cases hf
 go_wp2;exact ⟨rfl,NW _ _ _ _,.inr ⟨HF.out,rfl⟩⟩
namespace aA
def bu (a b n:Int) (nl nb ne:Nat):Bool:=decide (a=0/\b=0/\n=0/\nl=0/\nb=0/\ne=0)
def res (a:Int):Bool:=decide (a=0) || typ a
end aA
theorem Ks (a:Int) (w:World):Calls prog 74 #[.int .i64 a] w λe w'=>iN (res a) 30 e/\Below w.heap.size w w':=by
 by_cases h:a=0
 ·have hr:res a=true:=by simp [res,h]
  rw [hr];have d1:(a != 0)=false:=by simp [h]
  clear h hr;go_enter func74,ntmps74;go_wp2;go_end0;exact ⟨.inl ⟨rfl,rfl⟩,Below.refl _ _⟩
 have hr:res a=typ a:=by simp [res,h]
 rw [hr];have d1:(a != 0)=true:=by simp [h]
 clear h hr;generalize ht:typ a=t;have HT:=ag ht;clear ht;go_enter func74,ntmps74;go_wp2_with fail;refine (Cw _ [a] _ (oP _ _ _ _ _ (by simp) (by show 1<=_;omega))).mono ?_;rintro e u ⟨hN,rfl⟩;have hl : [a].all typ=t:=by rw [<- HT.out];simp
 rw [hl] at hN;clear hl;rcases hN with ⟨rfl,rfl⟩|⟨rfl,rfl⟩
 ·go_wp2;go_end0;exact ⟨.inl ⟨rfl,rfl⟩,(Below.refl _ w).alloc (aI _) _⟩
 go_wp2;exact ⟨rfl,.inr ⟨rfl,rfl⟩,(Below.refl _ w).alloc (aI _) _⟩
theorem vG (op a b n:Int) (lo bo eo:Option Addr) (nl nb ne lc bc ec:Nat) (w:World) :
  Calls prog 75 #[.agg #[.int .i64 op,.int .i64 a,.int .i64 b,.int .i64 n,.slice lo nl lc,.slice bo nb bc,.slice eo ne ec]] w λe w'=>iN (bu a b n nl nb ne) 30 e/\Below w.heap.size w w':=by
 by_cases g0:a=0
 ·have d0:(a==0)=true:=by simp [g0]
  by_cases g1:b=0
  ·have d1:(b==0)=true:=by simp [g1]
   by_cases g2:n=0
   ·have d2:(n==0)=true:=by simp [g2]
    by_cases g3:nl=0
    ·have d3:((nl:Int)==0)=true:=by simp [g3]
     by_cases g4:nb=0
     ·have d4:((nb:Int)==0)=true:=by simp [g4]
      by_cases g5:ne=0
      ·have d5:((ne:Int)==0)=true:=by simp [g5]
       have hr:bu a b n nl nb ne=true:=by simp [bu,g0,g1,g2,g3,g4,g5]
       rw [hr];clear hr g0 g1 g2 g3 g4 g5;go_enter func75,ntmps75;go_wp2_with fail;refine (gJ true _ _).mono ?_;rintro e u ⟨hN,rfl⟩;obtain rfl:=hN.yes;go_wp2_with fail;refine (gJ true _ _).mono ?_;rintro e u ⟨⟨_,rfl⟩|⟨hf,_⟩,rfl⟩
       ·go_wp2;go_end0;exact ⟨.inl ⟨rfl,rfl⟩,(Below.refl _ w).alloc (aI _) _⟩
       cases hf
      have d5:((ne:Int)==0)=false:=by simp [g5]
      have hr:bu a b n nl nb ne=false:=by simp [bu,g5]
      rw [hr];clear hr g0 g1 g2 g3 g4 g5;go_enter func75,ntmps75;go_wp2_with fail;refine (gJ true _ _).mono ?_;rintro e u ⟨hN,rfl⟩;obtain rfl:=hN.yes;go_wp2_with fail;refine (gJ false _ _).mono ?_;rintro e u ⟨⟨hf,_⟩|⟨_,rfl⟩,rfl⟩
      ·cases hf
      go_wp2;exact ⟨rfl,.inr ⟨rfl,rfl⟩,(Below.refl _ w).alloc (aI _) _⟩
     have d4:((nb:Int)==0)=false:=by simp [g4]
     have hr:bu a b n nl nb ne=false:=by simp [bu,g4]
     rw [hr];clear hr g0 g1 g2 g3 g4;go_enter func75,ntmps75;go_wp2_with fail;refine (gJ true _ _).mono ?_;rintro e u ⟨hN,rfl⟩;obtain rfl:=hN.yes;go_wp2_with fail;refine (gJ false _ _).mono ?_;rintro e u ⟨⟨hf,_⟩|⟨_,rfl⟩,rfl⟩
     ·cases hf
     go_wp2;exact ⟨rfl,.inr ⟨rfl,rfl⟩,(Below.refl _ w).alloc (aI _) _⟩
    have d3:((nl:Int)==0)=false:=by simp [g3]
    have hr:bu a b n nl nb ne=false:=by simp [bu,g3]
    rw [hr];clear hr g0 g1 g2 g3;go_enter func75,ntmps75;go_wp2_with fail;refine (gJ true _ _).mono ?_;rintro e u ⟨hN,rfl⟩;obtain rfl:=hN.yes;go_wp2_with fail;refine (gJ false _ _).mono ?_;rintro e u ⟨⟨hf,_⟩|⟨_,rfl⟩,rfl⟩
    ·cases hf
    go_wp2;exact ⟨rfl,.inr ⟨rfl,rfl⟩,(Below.refl _ w).alloc (aI _) _⟩
   have d2:(n==0)=false:=by simp [g2]
   have hr:bu a b n nl nb ne=false:=by simp [bu,g2]
   rw [hr];clear hr g0 g1 g2;go_enter func75,ntmps75;go_wp2_with fail;refine (gJ false _ _).mono ?_;rintro e u ⟨⟨hf,_⟩|⟨_,rfl⟩,rfl⟩
   ·cases hf
   go_wp2;exact ⟨rfl,.inr ⟨rfl,rfl⟩,(Below.refl _ w).alloc (aI _) _⟩
  have d1:(b==0)=false:=by simp [g1]
  have hr:bu a b n nl nb ne=false:=by simp [bu,g1]
  rw [hr];clear hr g0 g1;go_enter func75,ntmps75;go_wp2_with fail;refine (gJ false _ _).mono ?_;rintro e u ⟨⟨hf,_⟩|⟨_,rfl⟩,rfl⟩
  ·cases hf
  go_wp2;exact ⟨rfl,.inr ⟨rfl,rfl⟩,(Below.refl _ w).alloc (aI _) _⟩
 have d0:(a==0)=false:=by simp [g0]
 have hr:bu a b n nl nb ne=false:=by simp [bu,g0]
 rw [hr];clear hr g0;go_enter func75,ntmps75;go_wp2_with fail;refine (gJ false _ _).mono ?_;rintro e u ⟨⟨hf,_⟩|⟨_,rfl⟩,rfl⟩
 ·cases hf
 go_wp2;exact ⟨rfl,.inr ⟨rfl,rfl⟩,(Below.refl _ w).alloc (aI _) _⟩
end Go.Proofs.YtmfcojpjpgldhaaGreatDoor
namespace Go.Proofs.YtmfcojpjpgldhaaGreatDoor
open Go.RowKit
namespace bC
def md (W:Nat):Int:=if W=32 then 4294967296 else 18446744073709551616
def hf (W:Nat):Int:=if W=32 then 2147483648 else 9223372036854775808
def sg (W:Nat) (a:Int):Int:=if a<hf W then a else a-md W
def sig (op:Int):Int × Int × Int :=
 if op=69\/(103<=op/\op<=105) then (1,127,127)
 else if op=80 then (1,126,127)
 else if (70<=op/\op<=79)\/(106<=op/\op<=120) then (2,127,127)
 else if 81<=op/\op<=90 then (2,126,127)
 else if 121<=op/\op<=123 then (1,126,126)
 else if 124<=op/\op<=138 then (2,126,126)
 else if op=167 then (1,126,127)
 else if op=172\/op=173 then (1,127,126)
 else (0,0,0)
def signed (v typ:Int):Int:=if typ=127 then sg 32 (v%4294967296) else if typ=126 then sg 64 v else 0
def value (n typ:Int):Int:=if typ=127 then n%4294967296 else if typ=126 then n%18446744073709551616 else 0
end bC
theorem Ze {a b c a' b' c':Int} (h:(a,b,c)=(a',b',c')):Ending.returned (.tuple #[.int .i64 a,.int .i64 b,.int .i64 c])=.returned (.tuple #[.int .i64 a',.int .i64 b',.int .i64 c']):=by
 simp only [Prod.mk.injEq] at h;rw [h.1,h.2.1,h.2.2]
theorem below_drewN {B:Nat} {a w:World} (h:Below B a w) (n:Nat):Below B a (w.drewN n):=⟨h.os,h.tape,h.output,h.size,h.block⟩
end Go.Proofs.YtmfcojpjpgldhaaGreatDoor
namespace Go.Proofs.YtmfcojpjpgldhaaGreatDoor
open Go.RowKit Go.Proofs.Tryz
set_option maxHeartbeats 1000000
theorem gL (op:Int) (w:World) :
  Calls prog 127 #[.int .i64 op] w λe w'=>e=.returned (.tuple #[.int .i64 (bC.sig op).1,.int .i64 (bC.sig op).2.1,.int .i64 (bC.sig op).2.2])/\w'=w:=by
 go_enter func127,ntmps127;go_wp2
 all_goals go_ret3
 all_goals refine ⟨Ze ?_,rfl⟩
 all_goals (try simp only [beq_iff_eq,Nn,ne_eq] at *)
 all_goals show _=bC.sig op
 all_goals unfold bC.sig
 all_goals first|(exfalso;omega)|(repeat first|rw [if_neg (by omega)]|rw [if_pos (by omega)])
end Go.Proofs.YtmfcojpjpgldhaaGreatDoor
namespace Go.Proofs.YtmfcojpjpgldhaaGreatDoor
open Go.RowKit aA
set_option linter.unusedVariables false
namespace aA
def form (op:Int):Int :=
 if op<=-1 then 0 else
 if op<=0 then 1 else
 if op<=1 then 1 else
 if op<=2 then 2 else
 if op<=3 then 2 else
 if op<=4 then 3 else
 if op<=11 then 0 else
 if op<=12 then 4 else
 if op<=13 then 4 else
 if op<=14 then 5 else
 if op<=15 then 1 else
 if op<=16 then 6 else
 if op<=17 then 7 else
 if op<=25 then 0 else
 if op<=26 then 1 else
 if op<=27 then 1 else
 if op<=31 then 0 else
 if op<=36 then 6 else
 if op<=39 then 0 else
 if op<=40 then 8 else
 if op<=41 then 8 else
 if op<=42 then 10 else
 if op<=43 then 10 else
 if op<=55 then 8 else
 if op<=56 then 10 else
 if op<=57 then 10 else
 if op<=62 then 8 else
 if op<=63 then 1 else
 if op<=64 then 1 else
 if op<=65 then 9 else
 if op<=66 then 9 else
 if op<=67 then 10 else
 if op<=68 then 10 else
 if op<=90 then 1 else
 if op<=102 then 10 else
 if op<=138 then 1 else
 if op<=166 then 10 else
 if op<=167 then 1 else
 if op<=171 then 10 else
 if op<=173 then 1 else
 if op<=191 then 10 else
 0
theorem gI (op : Int) : (0 < (bC.sig op).1) ↔ ((69 ≤ op ∧ op ≤ 90) ∨ (103 ≤ op ∧ op ≤ 138) ∨ op = 167 ∨ op = 172 ∨ op = 173) := by
  unfold bC.sig
  repeat' split
  all_goals first | (constructor <;> intro h <;> first | omega | decide) | skip
  all_goals (constructor; · intro h; exfalso; revert h; decide
             intro h; exfalso; omega)
end aA
end Go.Proofs.YtmfcojpjpgldhaaGreatDoor
namespace Go.Proofs.YtmfcojpjpgldhaaGreatDoor
open Go.RowKit aA Go.Proofs.Tryz
set_option linter.unusedVariables false
structure dB (I:World->Prop):Prop where
 keep:∀ {w w':World},Below w.heap.size w w'->I w->I w'
 form:∀(op:Int) (w:World),I w->Calls prog 73 #[.int .i64 op] w λe w'=>e=.returned (.int .i64 (form op))/\Below w.heap.size w w'
end Go.Proofs.YtmfcojpjpgldhaaGreatDoor
