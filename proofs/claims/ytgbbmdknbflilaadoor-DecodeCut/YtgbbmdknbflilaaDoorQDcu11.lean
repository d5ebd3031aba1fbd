/- Texts that the claim needs. -/
import Derived.Test.YtgbbmdknbflilaaDoorQDcu10
import Derived.Shelf.LaysM
import Derived.Shelf.Strconv.Clone
import Derived.Deep.Cut
namespace Go.Proofs
open Go.RowKit Go.Shelf Go.Lib
shelf_lay LaysM.n316 Nm 316 at Tryd as Tryd.laysClone
namespace YtgbbmdknbflilaaDoor
open Go.RowKit Rep Dec
set_option linter.unusedVariables false
namespace Dec
def rtext (s:ByteArray) (en i:Nat):R ByteArray:=bd (ru s en i) fun n j=>if n<=(en:Int)-j then .ok (s.extract j (j+n.toNat),j+n.toNat) else .error 50
def vStr (a:ByteArray) (v:Value) (_:World):Prop:=v=.string a
def tG (p i en n:Nat):Nat->Value
 | 0=>.int .i64 n
 | 1=>.pointer (some ⟨p,0,none⟩)
 | 2=>.pointer (some ⟨p,0,none⟩)
 | 3=>.pointer (some ⟨p,2,none⟩)
 | 4=>.int .i64 en
 | 5=>.pointer (some ⟨p,0,none⟩)
 | 6=>.pointer (some ⟨p,0,none⟩)
 | 7=>.pointer (some ⟨p,1,none⟩)
 | 8=>.int .i64 i
 | 9=>.int .i64 ((en:Int)-i)
 | _=>.bool false
end Dec
theorem dClone0 (t:ByteArray) (w:World) (ht:t.size<=262144):Calls Tryd.prog 64 #[.string t] w fun e w'=>e=.returned (.string t)/\Below w.heap.size w w':=Any.stringslite_Clone Tryd.laysClone t w (by omega)
theorem dClone (t:ByteArray) (w:World) (ht:t.size<=262144):Calls Tryd.prog 55 #[.string t] w fun e w'=>e=.returned (.string t)/\Below w.heap.size w w':=by
 have HC:=hideR (dClone0 t w ht)
 go_enter Tryd.func55,Tryd.ntmps55
 go_wp2_with fail
 refine HC.out.mono ?_
 rintro e u ⟨rfl,hb⟩
 go_wp2
 go_ret
 exact ⟨rfl,hb⟩
set_option maxRecDepth 100000 in
set_option maxHeartbeats 4000000 in
theorem dText (w0:World) (p:Nat) (s:ByteArray) (c:Nat->Value) (en k i n:Nat) (w:World) (h:RS w0 p s c en k i n w) :
  Calls Tryd.prog 42 #[.pointer (some ⟨p,0,none⟩)] w (Rds w0 p s c en k n vStr w (rtext s en i)):=by
 have HC:=hideR (dUns w0 p s c en k i n w h)
 have hlen:=h.len
 have hbig:=h.big
 clear h
 unfold rtext
 cases hx:ru s en i with
 | error z =>
  rw [hx] at HC
  rw [bd_err]
  clear hx
  go_enter Tryd.func42,Tryd.ntmps42
  go_wp2_with fail
  refine HC.out.mono ?_
  rintro e w1 ⟨rfl,hb⟩
  exact ⟨rfl,rfl,hb⟩
 | ok v =>
  obtain ⟨x,j⟩:=v
  have hru:=ru_ok hlen hx
  rw [hx] at HC
  rw [bd_ok]
  clear hx
  obtain ⟨m,rfl⟩:∃m:Nat,x=(m:Int):=⟨x.toNat,by omega⟩
  rw [show ((m:Int).toNat)=m by omega]
  by_cases hm:(m:Int)<=(en:Int)-j
  ·rw [if_pos hm]
   have q1:decide ((m:Int)<=(en:Int)-(j:Int))=true:=decide_eq_true hm
   have a1:((j:Int)+(m:Int)).toNat=j+m:=by omega
   have hT:(s.extract j (j+m)).size<=262144:=by rw [ByteArray.size_extract];omega
   have HT:=fun u=>hideR (dClone (s.extract j (j+m)) u hT)
   have b1:j+m<=s.size:=by omega
   have b2:j+m<=en:=by omega
   have hjn:((j:Int)).toNat=j:=by omega
   clear hru hT hm
   go_enter Tryd.func42,Tryd.ntmps42
   go_wp2_with fail
   refine HC.out.mono ?_
   rintro e w1 ⟨⟨v,rfl,hv⟩,h1,h2⟩
   have hv:v=.int .i64 m:=hv
   subst hv
   have H1:=hideR h1
   have H2:=hideR h2
   have c0:=h1.cell 0 _ rfl
   have c1:=h1.cell 1 _ rfl
   have c2:=h1.cell 2 _ rfl
   have f1:=h1.frz 1
   clear h1 h2 HC
   go_wp2_with fail
   go_quiet (first|(go_at_call 9;exact Calls.quiet_of_same (needY _ _)))
   obtain ⟨t1,ht1⟩:∃t1,t1=(w1.drewN nq).setCell ⟨p,1,none⟩ (.int .i64 ((j:Int)+m)):=⟨_,rfl⟩
   have HR:Hid (RS w0 p s c en k (j+m) n t1):=hideR (by rw [ht1];have:=(H1.out.on (below_drewN' w1 nq)).at_ (j:=j+m) b2;rw [show ((j+m:Nat):Int)=(j:Int)+m by omega] at this;exact this)
   have HB:Hid (But p w t1):=hideR (by rw [ht1];exact (H2.out.trans (But.of p (below_drewN' w1 nq))).trans (But.set p 1 _ _))
   have HE:=hideR ht1
   clear ht1
   go_upto_region 5 with fail
   rw [<- HE.out]
   clear HE c0 c1 c2 f1 H1 H2
   have c0:=HR.out.cell 0 _ rfl
   have c1:=HR.out.cell 1 _ rfl
   rw [show ((j+m:Nat):Int)=(j:Int)+m by omega] at c1
   go_region_with (first|(go_at_call 55;refine (HT _).out.mono ?_;rintro e u ⟨rfl,hb⟩))
   all_goals (
    have HF:=hideR (⟨(HR.out.on (drew_on t1)).on hb,(HB.out.trans (But.of p (drew_on t1))).trans (But.of p hb)⟩:_/\_)
    clear hb HT
    go_wp2
    go_ret
    exact ⟨⟨_,rfl,rfl⟩,HF.out.1,HF.out.2⟩)
  ·rw [if_neg hm]
   have q1:decide ((m:Int)<=(en:Int)-(j:Int))=false:=decide_eq_false hm
   clear hru hm
   go_enter Tryd.func42,Tryd.ntmps42
   go_wp2_with fail
   refine HC.out.mono ?_
   rintro e w1 ⟨⟨v,rfl,hv⟩,h1,h2⟩
   have hv:v=.int .i64 m:=hv
   subst hv
   have H1:=hideR h1
   have c1:=h1.cell 1 _ rfl
   have c2:=h1.cell 2 _ rfl
   have hle:=h1.le
   clear h1 h2 HC
   go_wp2_with fail
   refine Reg.wp_region_two 11 (fun i=>7+i) (fun q v _=>v=tG p j en m q) (by kernel_rfl) (by kernel_rfl) (fun i j h1 h2 h=>by have h':7+i=7+j:=h;omega) (Reg.dst_ok (size:=42) (by kernel_rfl)) (fun i v w w' _ h _=>h) ?hstep ?htail
   case hstep =>
    intro q o a u hq ho hF hB hd
    have f0:a.tmps[0]?.getD undef=.pointer (some ⟨p,0,none⟩):=Reg.ev_get (hF.eval 0 (fun i hi=>by show 7+i≠0;omega))
    have f3:a.tmps[3]?.getD undef=.int .i64 m:=Reg.ev_get (hF.eval 3 (fun i hi=>by show 7+i≠3;omega))
    have d1:=cell_on hB c1
    have d2:=cell_on hB c2
    have hcase:q=0\/q=1\/q=2\/q=3\/q=4\/q=5\/q=6\/q=7\/q=8\/q=9\/q=10:=by omega
    clear hq c1 c2
    rcases hcase with rfl|rfl|rfl|rfl|rfl|rfl|rfl|rfl|rfl|rfl|rfl
    all_goals (simp only [List.getElem?_toArray,List.getElem?_cons_succ,List.getElem?_cons_zero,Option.some.injEq] at ho;subst ho;refine Reg.step_k fun K hK=>?_)
    ·go_simp
     exact hK _ _ ⟨_,rfl,Below.refl _ _,rfl⟩
    ·go_simp
     exact hK _ _ ⟨_,rfl,Below.refl _ _,rfl⟩
    ·have q:a.tmps[8]?.getD undef=.pointer (some ⟨p,0,none⟩):=Reg.ev_get (hd 1 (by decide))
     go_simp
     exact hK _ _ ⟨_,rfl,Below.refl _ _,rfl⟩
    ·have q:a.tmps[9]?.getD undef=.pointer (some ⟨p,0,none⟩):=Reg.ev_get (hd 2 (by decide))
     go_simp
     exact hK _ _ ⟨_,rfl,Below.refl _ _,rfl⟩
    ·have q:a.tmps[10]?.getD undef=.pointer (some ⟨p,2,none⟩):=Reg.ev_get (hd 3 (by decide))
     go_simp
     exact hK _ _ ⟨_,rfl,Below.refl _ _,rfl⟩
    ·go_simp
     exact hK _ _ ⟨_,rfl,Below.refl _ _,rfl⟩
    ·have q:a.tmps[12]?.getD undef=.pointer (some ⟨p,0,none⟩):=Reg.ev_get (hd 5 (by decide))
     go_simp
     exact hK _ _ ⟨_,rfl,Below.refl _ _,rfl⟩
    ·have q:a.tmps[13]?.getD undef=.pointer (some ⟨p,0,none⟩):=Reg.ev_get (hd 6 (by decide))
     go_simp
     exact hK _ _ ⟨_,rfl,Below.refl _ _,rfl⟩
    ·have q:a.tmps[14]?.getD undef=.pointer (some ⟨p,1,none⟩):=Reg.ev_get (hd 7 (by decide))
     go_simp
     exact hK _ _ ⟨_,rfl,Below.refl _ _,rfl⟩
    ·have q:a.tmps[11]?.getD undef=.int .i64 en:=Reg.ev_get (hd 4 (by decide))
     have q2:a.tmps[15]?.getD undef=.int .i64 j:=Reg.ev_get (hd 8 (by decide))
     have q3:IntKind.i64.wrap ((en:Int)-(j:Int))=(en:Int)-j:=by first|omega|(rw [IntKind.wrap_i64];first|omega|(unfold wrap64;omega))
     have q4:wrap64 ((en:Int)-(j:Int))=(en:Int)-j:=by first|omega|(unfold wrap64;omega)
     go_simp
     exact hK _ _ ⟨_,rfl,Below.refl _ _,by first|rfl|(rw [q3];rfl)|(rw [q4];rfl)⟩
    ·have q:a.tmps[7]?.getD undef=.int .i64 m:=Reg.ev_get (hd 0 (by decide))
     have q2:a.tmps[16]?.getD undef=.int .i64 ((en:Int)-j):=Reg.ev_get (hd 9 (by decide))
     go_simp
     exact hK _ _ ⟨_,rfl,Below.refl _ _,rfl⟩
   case htail =>
    intro a u hF hB hG
    have q:a.tmps[17]?.getD undef=.bool false:=Reg.ev_get (hG 10 (by decide))
    simp only [List.drop_succ_cons,List.drop_zero]
    refine wpList_plain rfl fun K hK=>?_
    go_simp
    refine (needN _ _).mono ?_
    rintro e u2 ⟨rfl,rfl⟩
    exact ⟨hF.defers,rfl,H1.out.below.trans (hB.mono H1.out.below.size)⟩
end YtgbbmdknbflilaaDoor
end Go.Proofs

namespace Go.Proofs
open Go.RowKit Go.Shelf Go.Lib
namespace YtgbbmdknbflilaaDoor
open Go.RowKit Rep
set_option maxHeartbeats 1000000 in
set_option maxRecDepth 1000000 in
theorem pName (s:ByteArray) (w:World) (hs:s.size<=9223372036854775807) (hT:UtfI w) :
  Calls Tryd.prog 57 #[.string s] w fun e w'=>e=.returned (.bool (nm s))/\Below w.heap.size w w':=by
 have cV:Calls Tryd.prog 41 #[.string s] w _:=Any.utf8_ValidString Tryd.laysValid s w (by omega) hT
 unfold nm
 generalize Lib.validD s.data.toList=V at cV ⊢
 have CV:=hideM cV
 clear cV
 by_cases h0:s.size<=64
 ·have h0z:decide ((s.size:Int)<=64)=true:=by simp;omega
  rw [h0z,Bool.true_and]
  go_enter Tryd.func57,Tryd.ntmps57
  go_wp2_with fail
  refine CV.out.mono ?_
  rintro e w' ⟨rfl,hb⟩
  go_wp2
  go_ret
  exact ⟨rfl,hb⟩
 ·have h0z:decide ((s.size:Int)<=64)=false:=by simp;omega
  rw [h0z,Bool.false_and]
  clear CV
  go_enter Tryd.func57,Tryd.ntmps57
  go_wp2
  go_ret
  exact ⟨rfl,Below.refl _ _⟩
end YtgbbmdknbflilaaDoor
end Go.Proofs

namespace Go.Proofs.YtgbbmdknbflilaaDoor
open Go.RowKit Rep Dec
set_option linter.unusedVariables false
namespace Dec
def rflag (s:ByteArray) (en i:Nat):R Bool:=bd (nx s en i) fun b j=>if b<=1 then .ok (b == 1,j) else .error 50
def rname (s:ByteArray) (en i:Nat):R ByteArray:=bd (rtext s en i) fun t j=>if nm t then .ok (t,j) else .error 50
def rcustom (s:ByteArray) (en i:Nat):R Unit:=bd (rtext s en i) fun t j=>if Lib.validD t.data.toList then .ok ((),en) else .error 50
def vBool (a:Bool) (v:Value) (_:World):Prop:=v=.bool a
theorem rtext_ok {s:ByteArray} {en i:Nat} {x:ByteArray} {j:Nat} (he:en<=s.size) (h:rtext s en i=.ok (x,j)):i<j/\j<=en/\x.size<=s.size:=by
 obtain ⟨b,m,h1,h2⟩:=bd_in h
 have h3:=ru_ok he h1
 split at h2
 ·injection h2 with h2;injection h2 with h2 h4
  subst h2
  rw [ByteArray.size_extract]
  omega
 ·cases h2
end Dec
section
variable (w0:World) (p:Nat) (s:ByteArray) (c:Nat->Value) (en k i n:Nat) (w:World) (h:RS w0 p s c en k i n w)
include h
set_option maxRecDepth 100000 in
set_option maxHeartbeats 2000000 in
theorem dVt:Calls Tryd.prog 46 #[.pointer (some ⟨p,0,none⟩)] w (Rds w0 p s c en k n vInt w (rt s en i)):=by
 have HC:=hideR (dNext w0 p s c en k i n w h)
 have hlen:=h.len
 have hbig:=h.big
 clear h
 unfold rt
 cases hx:nx s en i with
 | error z =>
  rw [hx] at HC
  rw [bd_err]
  clear hx
  go_enter Tryd.func46,Tryd.ntmps46
  go_wp2_with fail
  refine HC.out.mono ?_
  rintro e w1 ⟨rfl,hb⟩
  exact ⟨rfl,rfl,hb⟩
 | ok v =>
  obtain ⟨x,j⟩:=v
  rw [hx] at HC
  rw [bd_ok,vty_at]
  clear hx
  have HV:=fun u=>hideR (dTyp w0 x u)
  unfold Vty at HV
  cases hv0:vty x 0 with
  | error z =>
   rw [bd_err]
   rw [hv0] at HV
   clear hv0
   go_enter Tryd.func46,Tryd.ntmps46
   go_wp2_with fail
   refine HC.out.mono ?_
   rintro e w1 ⟨⟨v,rfl,hv⟩,h1,h2⟩
   have hv:v=.int .i64 x:=hv
   subst hv
   have HF:=hideR h1.below
   clear h1 h2 HC
   go_wp2_with fail
   refine (HV _).out.mono ?_
   rintro e w2 ⟨rfl,rfl⟩
   exact ⟨rfl,rfl,HF.out⟩
  | ok v =>
   obtain ⟨a,i0⟩:=v
   rw [bd_ok]
   rw [hv0] at HV
   clear hv0
   go_enter Tryd.func46,Tryd.ntmps46
   go_wp2_with fail
   refine HC.out.mono ?_
   rintro e w1 ⟨⟨v,rfl,hv⟩,h1,h2⟩
   have hv:v=.int .i64 x:=hv
   subst hv
   have HF:=hideR (⟨h1,h2⟩:_/\_)
   clear h1 h2 HC
   go_wp2_with fail
   refine (HV _).out.mono ?_
   rintro e w2 ⟨rfl,rfl⟩
   go_wp2
   go_ret
   exact ⟨⟨_,rfl,rfl⟩,HF.out.1,HF.out.2⟩
set_option maxRecDepth 100000 in
set_option maxHeartbeats 2000000 in
theorem dFlag:Calls Tryd.prog 48 #[.pointer (some ⟨p,0,none⟩)] w (Rds w0 p s c en k n vBool w (rflag s en i)):=by
 have HC:=hideR (dNext w0 p s c en k i n w h)
 have hlen:=h.len
 have hbig:=h.big
 clear h
 unfold rflag
 cases hx:nx s en i with
 | error z =>
  rw [hx] at HC
  rw [bd_err]
  clear hx
  go_enter Tryd.func48,Tryd.ntmps48
  go_wp2_with fail
  refine HC.out.mono ?_
  rintro e w1 ⟨rfl,hb⟩
  exact ⟨rfl,rfl,hb⟩
 | ok v =>
  obtain ⟨x,j⟩:=v
  rw [hx] at HC
  rw [bd_ok]
  clear hx
  by_cases hxb:x<=1
  ·rw [if_pos hxb]
   have hd:decide (x<=(1:Int))=true:=decide_eq_true hxb
   go_enter Tryd.func48,Tryd.ntmps48
   go_wp2_with fail
   refine HC.out.mono ?_
   rintro e w1 ⟨⟨v,rfl,hv⟩,h1,h2⟩
   have hv:v=.int .i64 x:=hv
   subst hv
   have HF:=hideR (⟨h1,h2⟩:_/\_)
   clear h1 h2 HC
   go_wp2_with fail
   refine (needY _ _).mono ?_
   rintro e w2 ⟨rfl,rfl⟩
   go_wp2
   go_ret
   exact ⟨⟨_,rfl,rfl⟩,HF.out.1,HF.out.2⟩
  ·rw [if_neg hxb]
   have hd:decide (x<=(1:Int))=false:=decide_eq_false hxb
   go_enter Tryd.func48,Tryd.ntmps48
   go_wp2_with fail
   refine HC.out.mono ?_
   rintro e w1 ⟨⟨v,rfl,hv⟩,h1,h2⟩
   have hv:v=.int .i64 x:=hv
   subst hv
   have HF:=hideR h1.below
   clear h1 h2 HC
   go_wp2_with fail
   refine (needN _ _).mono ?_
   rintro e w2 ⟨rfl,rfl⟩
   exact ⟨rfl,rfl,HF.out⟩
set_option maxRecDepth 100000 in
set_option maxHeartbeats 2000000 in
theorem dName (hU:∀u,Below w0.heap.size w0 u->UtfI u):Calls Tryd.prog 47 #[.pointer (some ⟨p,0,none⟩)] w (Rds w0 p s c en k n vStr w (rname s en i)):=by
 have HC:=hideR (dText w0 p s c en k i n w h)
 have hlen:=h.len
 have hbig:=h.big
 clear h
 unfold rname
 cases hx:rtext s en i with
 | error z =>
  rw [hx] at HC
  rw [bd_err]
  clear hx
  go_enter Tryd.func47,Tryd.ntmps47
  go_wp2_with fail
  refine HC.out.mono ?_
  rintro e w1 ⟨rfl,hb⟩
  exact ⟨rfl,rfl,hb⟩
 | ok v =>
  obtain ⟨x,j⟩:=v
  have hxs:=rtext_ok hlen hx
  rw [hx] at HC
  rw [bd_ok]
  clear hx
  have HN:∀u,Below w0.heap.size w0 u->Hid (Calls Tryd.prog 57 #[.string x] u fun e w'=>e=.returned (.bool (nm x))/\Below u.heap.size u w'):=fun u hb=>hideR (pName x u (by omega) (hU u hb))
  generalize nm x=y at HN ⊢
  clear hU hxs hlen hbig
  cases y with
  | true =>
   rw [if_pos rfl]
   go_enter Tryd.func47,Tryd.ntmps47
   go_wp2_with fail
   refine HC.out.mono ?_
   rintro e w1 ⟨⟨v,rfl,hv⟩,h1,h2⟩
   have hv:v=.string x:=hv
   subst hv
   have HM:=HN _ h1.below
   have HF:=hideR (⟨h1,h2⟩:_/\_)
   clear h1 h2 HC HN
   go_wp2_with fail
   refine HM.out.mono ?_
   rintro e w2 ⟨rfl,hb⟩
   have HG:=hideR (⟨HF.out.1.on hb,HF.out.2.trans (But.of p hb)⟩:_/\_)
   clear hb HM HF
   go_wp2_with fail
   refine (needY _ _).mono ?_
   rintro e w3 ⟨rfl,rfl⟩
   go_wp2
   go_ret
   exact ⟨⟨_,rfl,rfl⟩,HG.out.1,HG.out.2⟩
  | false =>
   rw [if_neg (by simp)]
   go_enter Tryd.func47,Tryd.ntmps47
   go_wp2_with fail
   refine HC.out.mono ?_
   rintro e w1 ⟨⟨v,rfl,hv⟩,h1,h2⟩
   have hv:v=.string x:=hv
   subst hv
   have HM:=HN _ h1.below
   have HF:=hideR h1.below
   clear h2 HC HN
   have HS:=hideR h1.below.size
   clear h1
   go_wp2_with fail
   refine HM.out.mono ?_
   rintro e w2 ⟨rfl,hb⟩
   have HG:=hideR (HF.out.trans (hb.mono HS.out))
   clear hb HM HF HS
   go_wp2_with fail
   refine (needN _ _).mono ?_
   rintro e w3 ⟨rfl,rfl⟩
   exact ⟨rfl,rfl,HG.out⟩
set_option maxRecDepth 100000 in
set_option maxHeartbeats 2000000 in
theorem dCustom (hU:∀u,Below w0.heap.size w0 u->UtfI u):Calls Tryd.prog 21 #[.pointer (some ⟨p,0,none⟩)] w (Rds w0 p s c en k n vUnit w (rcustom s en i)):=by
 have HC:=hideR (dText w0 p s c en k i n w h)
 have hlen:=h.len
 have hbig:=h.big
 clear h
 unfold rcustom
 cases hx:rtext s en i with
 | error z =>
  rw [hx] at HC
  rw [bd_err]
  clear hx
  go_enter Tryd.func21,Tryd.ntmps21
  go_wp2_with fail
  refine HC.out.mono ?_
  rintro e w1 ⟨rfl,hb⟩
  exact ⟨rfl,rfl,hb⟩
 | ok v =>
  obtain ⟨x,j⟩:=v
  have hxs:=rtext_ok hlen hx
  rw [hx] at HC
  rw [bd_ok]
  clear hx
  have HN:∀u,Below w0.heap.size w0 u->Hid (Calls Tryd.prog 41 #[.string x] u fun e w'=>e=.returned (.bool (Lib.validD x.data.toList))/\Below u.heap.size u w'):=fun u hb=>hideR (Any.utf8_ValidString Tryd.laysValid x u (by omega) (hU u hb))
  generalize Lib.validD x.data.toList=y at HN ⊢
  clear hU hxs hlen hbig
  cases y with
  | true =>
   rw [if_pos rfl]
   go_enter Tryd.func21,Tryd.ntmps21
   go_wp2_with fail
   refine HC.out.mono ?_
   rintro e w1 ⟨⟨v,rfl,hv⟩,h1,h2⟩
   have hv:v=.string x:=hv
   subst hv
   have HM:=HN _ h1.below
   have HF:=hideR (⟨h1,h2⟩:_/\_)
   clear h1 h2 HC HN
   go_wp2_with fail
   refine HM.out.mono ?_
   rintro e w2 ⟨rfl,hb⟩
   have HG:=hideR (⟨HF.out.1.on hb,HF.out.2.trans (But.of p hb)⟩:_/\_)
   clear hb HM HF
   go_wp2_with fail
   refine (needY _ _).mono ?_
   rintro e w3 ⟨rfl,rfl⟩
   have c2:=HG.out.1.cell 2 _ rfl
   have c1:=HG.out.1.cell 1 _ rfl
   have f1:=HG.out.1.frz 1
   have HE:Hid (∀u,Below w3.heap.size w3 u->RS w0 p s c en k en n (u.setCell ⟨p,1,none⟩ (.int .i64 en))/\But p w (u.setCell ⟨p,1,none⟩ (.int .i64 en))):=hideR (fun u hb=>⟨(HG.out.1.on hb).at_ (Nat.le_refl _),(HG.out.2.trans (But.of p hb)).trans (But.set p 1 u _)⟩)
   clear HG
   go_wp2_with fail
   go_end0
   exact ⟨⟨_,rfl,rfl⟩,(HE.out _ (Below.refl _ _)).1,(HE.out _ (Below.refl _ _)).2⟩
  | false =>
   rw [if_neg (by simp)]
   go_enter Tryd.func21,Tryd.ntmps21
   go_wp2_with fail
   refine HC.out.mono ?_
   rintro e w1 ⟨⟨v,rfl,hv⟩,h1,h2⟩
   have hv:v=.string x:=hv
   subst hv
   have HM:=HN _ h1.below
   have HF:=hideR h1.below
   clear h2 HC HN
   have HS:=hideR h1.below.size
   clear h1
   go_wp2_with fail
   refine HM.out.mono ?_
   rintro e w2 ⟨rfl,hb⟩
   have HG:=hideR (HF.out.trans (hb.mono HS.out))
   clear hb HM HF HS
   go_wp2_with fail
   refine (needN _ _).mono ?_
   rintro e w3 ⟨rfl,rfl⟩
   exact ⟨rfl,rfl,HG.out⟩
end
end Go.Proofs.YtgbbmdknbflilaaDoor

namespace Go.Proofs.YtgbbmdknbflilaaDoor
open Go.RowKit Rep Dec
set_option linter.unusedVariables false
namespace Dec
def rlt (s:ByteArray) (en at_:Nat):R (List Int):=bd (rc s en at_) fun n i=>rep (rt s en) n.toNat i
end Dec
set_option maxRecDepth 100000 in
set_option maxHeartbeats 4000000 in
theorem dTys (w0:World) (p:Nat) (s:ByteArray) (c:Nat->Value) (en k i n:Nat) (w:World) (h:RS w0 p s c en k i n w) :
  Calls Tryd.prog 45 #[.pointer (some ⟨p,0,none⟩),.func (.func 46) #[.pointer (some ⟨p,0,none⟩)] #[]] w (Rds w0 p s c en k n (vInts w.heap.size) w (rlt s en i)):=by
 have HC:=hideR (dCnt w0 p s c en k i n w h)
 have hpw:=h.lt
 have hlen:=h.len
 have hle:=h.le
 clear h
 unfold rlt
 cases hx:rc s en i with
 | error z =>
  rw [hx] at HC
  rw [bd_err]
  clear hx
  go_enter Tryd.func45,Tryd.ntmps45
  go_wp2_with fail
  refine HC.out.mono ?_
  rintro e w1 ⟨rfl,hb⟩
  exact ⟨rfl,rfl,hb⟩
 | ok v =>
  obtain ⟨x,j⟩:=v
  have hrc:=rc_ok hlen hx
  rw [hx] at HC
  rw [bd_ok]
  obtain ⟨m,rfl⟩:∃m:Nat,x=(m:Int):=⟨x.toNat,by omega⟩
  have hm:m<=4096:=by omega
  rw [show ((m:Int).toNat)=m by omega]
  obtain ⟨R,hR⟩:∃R,R=rep (rt s en) m j:=⟨_,rfl⟩
  rw [<- hR]
  have HR:=hideR hR
  clear hx hrc hR hlen hle
  go_enter Tryd.func45,Tryd.ntmps45
  go_wp2_with fail
  refine HC.out.mono ?_
  rintro e w1 ⟨⟨v,rfl,hv⟩,h1,h2⟩
  have hv:v=.int .i64 m:=hv
  subst hv
  have H1:=hideR h1
  have H2:=hideR h2
  clear h1 h2 HC
  go_wp2_with fail
  go_loopw [5,8] (fun t u wr=>∃(q:Nat) (l:List Int) (jq:Nat),q<=m/\u=.int .i64 q/\l.length=q/\(∃o c,t=.slice o q c)/\Hid (R=pre l (rep (rt s en) (m-q) jq))/\Hid (RS w0 p s c en k jq n wr)/\Hid (But p w wr)/\Hid (wr.ownsRow w.heap.size 3 1 t q (l.map fun z=>Value.int .i64 z))) (fun _ u _=>m-(RowKit.intOf u).toNat)
  case atStart=>exact ⟨0,[],j,by omega,rfl,rfl,⟨none,0,rfl⟩,hideR (by rw [HR.out,pre_nil];rfl),H1,H2,hideR (World.ownsRow_nil _ _ _ _)⟩
  case round =>
   obtain ⟨q,l,jq,hq,rfl,hl,⟨oT,cT,rfl⟩,HP,HS,HB,HO⟩:=hrel
   by_cases hgo:q<m
   ·have hU:=dVt w0 p s c en k jq n wr HS.out
    obtain ⟨r,hr⟩:∃r,m-q=r+1:=⟨m-q-1,by omega⟩
    cases hu:rt s en jq with
    | error z =>
     rw [hu] at hU
     have HU:=hideR hU
     have HZ:Hid (R=.error z):=hideR (by rw [HP.out,hr];exact pre_err l _ r jq z hu)
     clear hU hu HP HO
     go_wp2_with fail
     refine HU.out.mono ?_
     rintro e w2 ⟨rfl,hb⟩
     exact ⟨rfl,by rw [HZ.out];exact ⟨rfl,hb⟩⟩
    | ok v =>
     obtain ⟨y,j2⟩:=v
     rw [hu] at hU
     have HU:=hideR hU
     have HZ:Hid (R=pre (l++[y]) (rep (rt s en) (m-(q+1)) j2)):=hideR (by rw [HP.out,hr,pre_on l _ r jq y j2 hu,show m-(q+1)=r by omega])
     clear hU hu HP
     go_wp2_with fail
     refine HU.out.mono ?_
     rintro e w2 ⟨⟨v,rfl,hv⟩,h1,h2⟩
     have hv:v=.int .i64 y:=hv
     subst hv
     have HO2:=hideR ((own_but HO.out hpw h2).alloc (.cells #[.int .i64 y] 3))
     have HN:=hideR (new_at w2 (.int .i64 y) 3)
     have HB2:=hideR ((HB.out.trans h2).trans (But.of p (new_on' w2 (.cells #[.int .i64 y] 3))))
     have HS2:=hideR (h1.on (new_on' w2 (.cells #[.int .i64 y] 3)))
     have HSZ:Hid (w.heap.size<=w2.heap.size):=hideR (Nat.le_trans HB.out.size h2.size)
     clear h1 h2 HU HO HS HB
     obtain ⟨i0,hi,hz0,hz1,hz2⟩:=info_parts intInfo
     go_wp2_with (first|(at_builtin;refine wpList_appS rfl _ _ 29 rfl w.heap.size 3 i0 _ 1 8 Tryd.underlying29 hi hz0 hz1 hz2 rfl (by decide) _ _ _ rfl HO2.out (some ⟨w2.heap.size,0,none⟩) 1 1 [.int .i64 y] rfl ?c6 ?c0 ?c1 ?c2 ?c3 ?c4 ?c5 ?_))
     case c6=>intro h;cases h
     case c0=>rfl
     case c1=>exact fun ad h=>by injection h with h;subst h;exact HN.out
     case c2=>exact fun u hu=>by rw [List.mem_singleton.1 hu];rfl
     case c3=>unfold maxLen;omega
     case c4=>omega
     case c5=>have:=HSZ.out;simp;omega
     intro v9 w9 hown9 hg9 _
     have ho9:∀q',(Value.slice oT q cT).ownBlock=some q'->w.heap.size<=q':=fun q' hq'=>(HO2.out.lt q' hq').1
     have HS9:=hideR (HS2.out.grown hg9 (fun q' hq'=>Nat.lt_of_lt_of_le hpw (ho9 q' hq')))
     have HB9:=hideR (But.grown (p:=p) HB2.out hg9 ho9)
     have HO9:Hid (w9.ownsRow w.heap.size 3 1 v9 (q+1) ((l++[y]).map fun z=>Value.int .i64 z)):=hideR (by rw [List.map_append];exact hown9)
     have hsl:=own_slice hown9
     clear hown9 hg9 ho9 HO2 HN HB2 HS2
     obtain ⟨oN,cN,rfl⟩:=hsl
     go_wp2
     go_roundw
     case rel=>exact ⟨q+1,l++[y],j2,by omega,by go_num,by simp [hl],⟨_,_,rfl⟩,HZ,HS9,HB9,HO9⟩
     case measure=>simp [RowKit.intOf];omega
   ·obtain rfl:q=m:=by omega
    have HZ:Hid (R=.ok (l,jq)):=hideR (by rw [HP.out,Nat.sub_self];exact pre_end l _ jq)
    have HV:Hid (vInts w.heap.size l (.slice oT q cT) wr):=hideR (ints_own (l:=l) (by rw [hl];exact HO.out) (by omega))
    clear HP HO
    go_wp2
    go_ret
    rw [HZ.out]
    exact ⟨⟨_,rfl,HV.out⟩,HS.out,HB.out⟩
end Go.Proofs.YtgbbmdknbflilaaDoor

