/- Texts that the claim needs. -/
import Derived.Test.YtlcpagiljfpbpaaGreatDoorQELo46
import Derived.Test.YtlcpagiljfpbpaaGreatDoorQELo5
import Derived.Test.YtlcpagiljfpbpaaGreatDoorQELo1
import Derived.Laws.BitsAllLaws
import Derived.Lib.ValidLaws
namespace Go.Proofs.YtlcpagiljfpbpaaGreatDoor
open Go.RowKit Rep
set_option linter.unusedVariables false
namespace Rep
def okL:(d:Nat)->IL d->Bool
 | 0,_=>true
 | d+1,l=>List.all (α:=Ins (IL d)) l fun x=>okS (sn x) && (okL d x.body && okL d x.els)
def okX (d:Nat) (x:Ins (IL d)):Bool:=okS (sn x) && (okL d x.body && okL d x.els)
end Rep
set_option maxHeartbeats 1000000 in
theorem refAll0 (o:Option Addr) (cap:Nat) (w:World) :
  Calls Tryz.prog 99 #[.slice o 0 cap] w fun e w'=>e=.returned (.bool true)/\Below w.heap.size w w':=by
 go_enter Tryz.func99,Tryz.ntmps99
 go_wp2_with fail
 go_loopw [3] (fun i wr=>i=.int .i64 0/\wr=w) (fun _ _=>0)
 case atStart=>exact ⟨rfl,rfl⟩
 case round =>
  obtain ⟨rfl,rfl⟩:=hrel
  go_wp2
  go_ret
  exact ⟨rfl,Below.refl _ _⟩
def AllSays (d:Nat):Prop:=∀(v:Value) (l:IL d) (w:World),At w d v l ->
  Calls Tryz.prog 99 #[v] w fun e w'=>e=.returned (.bool (okL d l))/\Below w.heap.size w w'
set_option maxHeartbeats 1000000 in
theorem refAllS (d:Nat) (IH:AllSays d) (v:Value) (l:List (Ins (IL d))) (w:World) (hAt:Row 7 (InsAt w (At w d)) v l) :
  Calls Tryz.prog 99 #[v] w fun e w'=>e=.returned (.bool (l.all (okX d)))/\Below w.heap.size w w':=by
 have hlen:=hAt.1
 by_cases hz:l.length=0
 ·obtain ⟨o,cap,rfl⟩:=hAt.len
  rw [hz]
  obtain rfl:l = []:=List.length_eq_zero_iff.1 hz
  exact refAll0 o cap w
 obtain ⟨b,off,cap,rfl,hx⟩:=hAt.some (by omega)
 obtain ⟨R,hR⟩:∃R,R=l.all (okX d):=⟨_,rfl⟩
 rw [<- hR]
 have HR:Hid (R=(l.drop 0).all (okX d)):=hR
 have HX:=hideM hx
 have HIH:=hideM IH
 clear hx hAt hR IH
 generalize hn:l.length=n at *
 go_enter Tryz.func99,Tryz.ntmps99
 go_wp2_with fail
 go_loopw [3] (fun i wr=>∃k:Nat,k<=n/\i=.int .i64 k/\Hid (R=(l.drop k).all (okX d))/\Hid (Below w.heap.size w wr)) (fun i _=>n-(RowKit.intOf i).toNat)
 case atStart=>exact ⟨0,by omega,rfl,HR,Below.refl _ _⟩
 case round =>
  obtain ⟨k,hk,rfl,HK,HBW⟩:=hrel
  by_cases hgo:k<n
  ·obtain ⟨x,hxk⟩:∃x,l[k]?=some x:=⟨_,List.getElem?_eq_getElem (by omega)⟩
   have hI:=(HX.out k x hxk).on HBW.out (At.on HBW.out d)
   obtain ⟨k0,k1,k2,k3,⟨lv,k4,a4⟩,⟨bv,k5,a5⟩,⟨ev,k6,a6⟩⟩:=hI
   have HN:=hideM (HK.out.trans (all_on hxk rfl))
   have HP:Hid (okX d x=(okF (form x.op) x.op x.a x.b x.n x.labels (size d x.body) (size d x.els) && (okL d x.body && okL d x.els))):=rfl
   have I1:=hideM fun (w':World) (h:Below wr.heap.size wr w')=>HIH.out bv x.body w' (At.on h d _ _ a5)
   have I2:=hideM fun (w':World) (h:Below wr.heap.size wr w')=>HIH.out ev x.els w' (At.on h d _ _ a6)
   obtain ⟨lo,lc,rfl⟩:=Row.len a4
   obtain ⟨bo,bc,rfl⟩:=At.len d bv x.body a5
   obtain ⟨eo,ec,rfl⟩:=At.len d ev x.els a6
   have I0:=hideM (refOne x.op x.a x.b x.n x.labels lo bo eo (size d x.body) (size d x.els) lc bc ec wr a4)
   clear hxk a4 a5 a6 HK
   generalize okF (form x.op) x.op x.a x.b x.n x.labels (size d x.body) (size d x.els)=r0 at *
   generalize okL d x.body=r1 at *
   generalize okL d x.els=r2 at *
   generalize size d x.body=nb at *
   generalize size d x.els=ne at *
   generalize x.labels.length=nl at *
   go_wp2_with fail
   refine I0.out.mono ?_
   rintro e w1 ⟨rfl,hb1⟩
   have m5:=cell_on hb1 k5
   have m6:=cell_on hb1 k6
   have HB1:=hideM hb1
   clear hb1 k0 k1 k2 k3 k4 k5 k6
   cases r0
   ·have HF:R=false:=by rw [HN.out,HP.out];rfl
    have HFF:=hideM HF
    clear HF HN HP
    go_wp2
    go_ret
    exact ⟨by rw [HFF.out];rfl,below_go HBW.out HB1.out⟩
   ·go_wp2_with fail
    refine (I1.out _ HB1.out).mono ?_
    rintro e w2 ⟨rfl,hb2⟩
    have p6:=cell_on hb2 m6
    have HB2:=hideM (below_go HB1.out hb2)
    clear hb2 m5 m6
    cases r1
    ·have HF:R=false:=by rw [HN.out,HP.out];rfl
     have HFF:=hideM HF
     clear HF HN HP
     go_wp2
     go_ret
     exact ⟨by rw [HFF.out];rfl,below_go HBW.out HB2.out⟩
    ·go_wp2_with fail
     refine (I2.out _ HB2.out).mono ?_
     rintro e w3 ⟨rfl,hb3⟩
     have HB3:=hideM (below_go HBW.out (below_go HB2.out hb3))
     clear hb3 p6
     cases r2
     ·have HF:R=false:=by rw [HN.out,HP.out];rfl
      have HFF:=hideM HF
      clear HF HN HP
      go_wp2
      go_ret
      exact ⟨by rw [HFF.out];rfl,HB3.out⟩
     ·have HF:Hid (R=(l.drop (k+1)).all (okX d)):=hideM (by rw [HN.out,HP.out];rfl)
      clear HN HP
      go_wp2
      go_roundw
      case rel=>exact ⟨k+1,by omega,by go_num,HF,HB3⟩
      case measure=>simp [RowKit.intOf];omega
  ·have HE:R=true:=all_end (by omega) HK.out
   have HEE:=hideM HE
   clear HE HK
   go_wp2
   go_ret
   exact ⟨by rw [HEE.out];rfl,HBW.out⟩
theorem refAll:∀(d:Nat),AllSays d
 | 0=>fun v l w ⟨o,c,hv⟩=>by
  subst hv
  exact refAll0 o c w
 | d+1=>fun v l w hAt=>refAllS d (refAll d) v l w hAt
set_option maxHeartbeats 1000000 in
theorem refConstant (op a b n:Int) (ls:List Int) (lo bo eo:Option Addr) (nb ne lc bc ec:Nat) (w:World) (hl:Ints w (.slice lo ls.length lc) ls) :
  Calls Tryz.prog 100 #[.agg #[.int .i64 op,.int .i64 a,.int .i64 b,.int .i64 n,.slice lo ls.length lc,.slice bo nb bc,.slice eo ne ec]] w fun e w'=>e=.returned (.bool (cst op && okF (form op) op a b n ls nb ne))/\Below w.heap.size w w':=by
 have HO:=hideM fun (w':World) (h:Below w.heap.size w w')=>refOne op a b n ls lo bo eo nb ne lc bc ec w' (hl.on h)
 clear hl
 generalize okF (form op) op a b n ls nb ne=r at *
 generalize ls.length=nl at *
 unfold cst
 have hw:=hideM fun (o:Obj)=>(Below.refl w.heap.size w).alloc (Nat.le_refl _) o
 cases h1:op == 65
 ·cases h2:op == 66
  ·cases h3:op == 35
   ·go_enter Tryz.func100,Tryz.ntmps100
    go_wp2
    go_ret
    exact ⟨rfl,hw.out _⟩
   ·go_enter Tryz.func100,Tryz.ntmps100
    go_wp2_with fail
    refine (HO.out _ (hw.out _)).mono ?_
    rintro e u ⟨rfl,hb⟩
    go_wp2
    go_ret
    exact ⟨rfl,below_go (hw.out _) hb⟩
  ·go_enter Tryz.func100,Tryz.ntmps100
   go_wp2_with fail
   refine (HO.out _ (hw.out _)).mono ?_
   rintro e u ⟨rfl,hb⟩
   go_wp2
   go_ret
   exact ⟨rfl,below_go (hw.out _) hb⟩
 ·go_enter Tryz.func100,Tryz.ntmps100
  go_wp2_with fail
  refine (HO.out _ (hw.out _)).mono ?_
  rintro e u ⟨rfl,hb⟩
  go_wp2
  go_ret
  exact ⟨rfl,below_go (hw.out _) hb⟩
end Go.Proofs.YtlcpagiljfpbpaaGreatDoor

namespace Go.Proofs.YtlcpagiljfpbpaaGreatDoor
open Go.RowKit Rep
namespace Rep
open Go.Lib
def by8 (l:List UInt8) (k:Nat):Nat:=(l.getD k 0).toNat
theorem by8_lt (l:List UInt8) (k:Nat):by8 l k<256:=(l.getD k 0).toNat_lt
def cnt8 (x:Nat):Bool:=decide (128<=x/\x<=191)
theorem getD_drop (l:List UInt8) (i k:Nat):(l.drop i).getD k 0=l.getD (i+k) 0:=by
 rw [List.getD_eq_getElem?_getD,List.getD_eq_getElem?_getD,List.getElem?_drop]
theorem v1 (l:List UInt8) (i:Nat) (hi:i<l.length) (h:by8 l i<128):validD (l.drop i)=validD (l.drop (i+1)):=by
 have e:l.drop i=l.getD i 0 :: l.drop (i+1):=by
  rw [List.drop_eq_getElem_cons hi,List.getD_eq_getElem?_getD,List.getElem?_eq_getElem hi];rfl
 rw [e];exact validD_cons _ _ h
theorem vEnd (l:List UInt8) (i:Nat) (hi:l.length<=i):validD (l.drop i)=true:=by
 rw [List.drop_eq_nil_of_le hi];rfl
theorem drop_ne (l:List UInt8) (i:Nat) (hi:i<l.length):l.drop i≠[]:=by
 intro h
 have:(l.drop i).length=0:=by rw [h];rfl
 rw [List.length_drop] at this
 omega
theorem vLead (l:List UInt8) (i:Nat) (hi:i<l.length) (h:128<=by8 l i) :
  validD (l.drop i)=match checkN (l.length-i) (by8 l (i+1)) (by8 l (i+2)) (by8 l (i+3)) (firstT (by8 l i)%8) (accLo (firstT (by8 l i) / 16)) (accHi (firstT (by8 l i) / 16)) with
   | none=>false
   | some k=>validD (l.drop (i+k)):=by
 have h0:128<=((l.drop i).getD 0 0).toNat:=by rw [getD_drop];exact h
 rw [validD_lead _ (drop_ne l i hi) h0,List.length_drop,getD_drop,getD_drop,getD_drop,getD_drop]
 simp only [List.drop_drop]
 rfl
theorem vBad (l:List UInt8) (i:Nat) (hi:i<l.length) (h:128<=by8 l i) (h2:by8 l i<194\/245<=by8 l i):validD (l.drop i)=false:=by
 rw [vLead l i hi h]
 generalize by8 l i=b at *
 have e:firstT b=241:=by
  unfold firstT
  repeat' split
  all_goals first|rfl|(exfalso;omega)
 rw [e];simp [checkN]
theorem v2 (l:List UInt8) (i:Nat) (hi:i<l.length) (h:194<=by8 l i/\by8 l i<=223) :
  validD (l.drop i)=(decide (i+1<l.length) && cnt8 (by8 l (i+1)) && validD (l.drop (i+2))):=by
 rw [vLead l i hi (by omega)]
 generalize by8 l i=b at *
 have e:firstT b=2:=by
  unfold firstT
  repeat' split
  all_goals first|rfl|(exfalso;omega)
 rw [e]
 simp only [checkN,accLo,accHi,cnt8]
 generalize by8 l (i+1)=b1
 by_cases h1:l.length-i<2\/b1<128\/191<b1
 ·simp only [h1,if_pos,Nat.reduceMod,Nat.reduceDiv]
  have:(decide (i+1<l.length) && decide (128<=b1/\b1<=191))=false:=by
   rw [Bool.and_eq_false_iff,decide_eq_false_iff_not,decide_eq_false_iff_not];omega
  rw [this];rfl
 ·simp only [h1,if_false,if_pos,Nat.reduceMod,Nat.reduceDiv]
  have:(decide (i+1<l.length) && decide (128<=b1/\b1<=191))=true:=by
   rw [Bool.and_eq_true,decide_eq_true_iff,decide_eq_true_iff];omega
  rw [this];rfl
theorem v3 (l:List UInt8) (i:Nat) (hi:i<l.length) (h:224<=by8 l i/\by8 l i<=239) :
  validD (l.drop i)=(decide (i+1<l.length) && cnt8 (by8 l (i+1)) && (decide (i+2<l.length) && cnt8 (by8 l (i+2))) &&
   !(decide ((by8 l i%16*64+by8 l (i+1)%64)*64+by8 l (i+2)%64<2048) || decide (55296<=(by8 l i%16*64+by8 l (i+1)%64)*64+by8 l (i+2)%64/\(by8 l i%16*64+by8 l (i+1)%64)*64+by8 l (i+2)%64<=57343)) && validD (l.drop (i+3))):=by
 rw [vLead l i hi (by omega)]
 have q1:=by8_lt l (i+1)
 have q2:=by8_lt l (i+2)
 generalize by8 l i=b at *
 generalize by8 l (i+1)=b1 at *
 generalize by8 l (i+2)=b2 at *
 generalize hV:validD (l.drop (i+3))=V
 have e:firstT b%8=3/\accLo (firstT b / 16)=(if b=224 then 160 else 128)/\accHi (firstT b / 16)=(if b=237 then 159 else 191):=by
  unfold firstT
  repeat' split
  all_goals first|(exfalso;omega)|(subst_vars;exact ⟨rfl,rfl,rfl⟩)|exact ⟨rfl,rfl,rfl⟩
 rw [e.1,e.2.1,e.2.2]
 simp only [checkN,cnt8]
 generalize hlo:(if b=224 then 160 else 128:Nat)=lo
 generalize hhi:(if b=237 then 159 else 191:Nat)=hi'
 have hlo':(b=224/\lo=160)\/(b≠224/\lo=128):=by split at hlo<;>omega
 have hhi':(b=237/\hi'=159)\/(b≠237/\hi'=191):=by split at hhi<;>omega
 by_cases h1:l.length-i<3\/b1<lo\/hi'<b1\/b2<128\/191<b2
 ·simp only [h1,if_pos,Nat.reduceEqDiff,if_false]
  have:(decide (i+1<l.length) && decide (128<=b1/\b1<=191) && (decide (i+2<l.length) && decide (128<=b2/\b2<=191)) &&
   !(decide ((b%16*64+b1%64)*64+b2%64<2048) || decide (55296<=(b%16*64+b1%64)*64+b2%64/\(b%16*64+b1%64)*64+b2%64<=57343)))=false:=by
   simp only [Bool.and_eq_false_iff,decide_eq_false_iff_not,Bool.not_eq_false',Bool.or_eq_true,decide_eq_true_iff]
   omega
  rw [this];rfl
 ·simp only [h1,if_pos,Nat.reduceEqDiff,if_false]
  have:(decide (i+1<l.length) && decide (128<=b1/\b1<=191) && (decide (i+2<l.length) && decide (128<=b2/\b2<=191)) &&
   !(decide ((b%16*64+b1%64)*64+b2%64<2048) || decide (55296<=(b%16*64+b1%64)*64+b2%64/\(b%16*64+b1%64)*64+b2%64<=57343)))=true:=by
   simp only [Bool.and_eq_true,decide_eq_true_iff,Bool.not_eq_true',Bool.or_eq_false_iff,decide_eq_false_iff_not]
   omega
  rw [this,hV];rfl
theorem v4 (l:List UInt8) (i:Nat) (hi:i<l.length) (h:240<=by8 l i/\by8 l i<=244) :
  validD (l.drop i)=(decide (i+1<l.length) && cnt8 (by8 l (i+1)) && (decide (i+2<l.length) && cnt8 (by8 l (i+2))) && (decide (i+3<l.length) && cnt8 (by8 l (i+3))) &&
   !(decide (((by8 l i%8*64+by8 l (i+1)%64)*64+by8 l (i+2)%64)*64+by8 l (i+3)%64<65536) || decide (1114111<((by8 l i%8*64+by8 l (i+1)%64)*64+by8 l (i+2)%64)*64+by8 l (i+3)%64)) && validD (l.drop (i+4))):=by
 rw [vLead l i hi (by omega)]
 have q1:=by8_lt l (i+1)
 have q2:=by8_lt l (i+2)
 have q3:=by8_lt l (i+3)
 generalize by8 l i=b at *
 generalize by8 l (i+1)=b1 at *
 generalize by8 l (i+2)=b2 at *
 generalize by8 l (i+3)=b3 at *
 generalize hV:validD (l.drop (i+4))=V
 have e:firstT b%8=4/\accLo (firstT b / 16)=(if b=240 then 144 else 128)/\accHi (firstT b / 16)=(if b=244 then 143 else 191):=by
  unfold firstT
  repeat' split
  all_goals first|(exfalso;omega)|(subst_vars;exact ⟨rfl,rfl,rfl⟩)|exact ⟨rfl,rfl,rfl⟩
 rw [e.1,e.2.1,e.2.2]
 simp only [checkN,cnt8]
 generalize hlo:(if b=240 then 144 else 128:Nat)=lo
 generalize hhi:(if b=244 then 143 else 191:Nat)=hi'
 have hlo':(b=240/\lo=144)\/(b≠240/\lo=128):=by split at hlo<;>omega
 have hhi':(b=244/\hi'=143)\/(b≠244/\hi'=191):=by split at hhi<;>omega
 by_cases h1:l.length-i<4\/b1<lo\/hi'<b1\/b2<128\/191<b2\/b3<128\/191<b3
 ·simp only [h1,if_pos,Nat.reduceEqDiff,if_false]
  have:(decide (i+1<l.length) && decide (128<=b1/\b1<=191) && (decide (i+2<l.length) && decide (128<=b2/\b2<=191)) && (decide (i+3<l.length) && decide (128<=b3/\b3<=191)) &&
   !(decide (((b%8*64+b1%64)*64+b2%64)*64+b3%64<65536) || decide (1114111<((b%8*64+b1%64)*64+b2%64)*64+b3%64)))=false:=by
   simp only [Bool.and_eq_false_iff,decide_eq_false_iff_not,Bool.not_eq_false',Bool.or_eq_true,decide_eq_true_iff]
   omega
  rw [this];rfl
 ·simp only [h1,if_pos,Nat.reduceEqDiff,if_false]
  have:(decide (i+1<l.length) && decide (128<=b1/\b1<=191) && (decide (i+2<l.length) && decide (128<=b2/\b2<=191)) && (decide (i+3<l.length) && decide (128<=b3/\b3<=191)) &&
   !(decide (((b%8*64+b1%64)*64+b2%64)*64+b3%64<65536) || decide (1114111<((b%8*64+b1%64)*64+b2%64)*64+b3%64)))=true:=by
   simp only [Bool.and_eq_true,decide_eq_true_iff,Bool.not_eq_true',Bool.or_eq_false_iff,decide_eq_false_iff_not]
   omega
  rw [this,hV];rfl
def more (l:List UInt8) (j low:Nat):Nat->Nat->Nat->Bool
 | 0,k,v=>!(decide (v<low) || decide (1114111<v) || decide (55296<=v/\v<=57343)) && validD (l.drop (j+k))
 | m+1,k,v=>(decide (j+k<l.length) && cnt8 (by8 l (j+k))) && more l j low m (k+1) (v*64+by8 l (j+k)%64)
theorem more2 (l:List UInt8) (i:Nat) (hi:i<l.length) (h:194<=by8 l i/\by8 l i<=223):validD (l.drop i)=more l i 128 1 1 (by8 l i%32):=by
 rw [v2 l i hi h]
 simp only [more]
 have q1:=by8_lt l (i+1)
 generalize by8 l i=b at *
 generalize by8 l (i+1)=b1 at *
 have e:(!(decide (b%32*64+b1%64<128) || decide (1114111<b%32*64+b1%64) || decide (55296<=b%32*64+b1%64/\b%32*64+b1%64<=57343)))=true:=by
  simp only [Bool.not_eq_true',Bool.or_eq_false_iff,decide_eq_false_iff_not]
  omega
 rw [e,Bool.true_and]
theorem more3 (l:List UInt8) (i:Nat) (hi:i<l.length) (h:224<=by8 l i/\by8 l i<=239):validD (l.drop i)=more l i 2048 2 1 (by8 l i%16):=by
 rw [v3 l i hi h]
 simp only [more]
 have q1:=by8_lt l (i+1)
 have q2:=by8_lt l (i+2)
 generalize by8 l i=b at *
 generalize by8 l (i+1)=b1 at *
 generalize by8 l (i+2)=b2 at *
 have e:decide (1114111<(b%16*64+b1%64)*64+b2%64)=false:=by rw [decide_eq_false_iff_not];omega
 rw [e,Bool.or_false]
 simp only [Bool.and_assoc]
theorem more4 (l:List UInt8) (i:Nat) (hi:i<l.length) (h:240<=by8 l i/\by8 l i<=244):validD (l.drop i)=more l i 65536 3 1 (by8 l i%8):=by
 rw [v4 l i hi h]
 simp only [more]
 have q1:=by8_lt l (i+1)
 have q2:=by8_lt l (i+2)
 have q3:=by8_lt l (i+3)
 generalize by8 l i=b at *
 generalize by8 l (i+1)=b1 at *
 generalize by8 l (i+2)=b2 at *
 generalize by8 l (i+3)=b3 at *
 generalize hv:((b%8*64+b1%64)*64+b2%64)*64+b3%64=v
 have e:(!(decide (v<65536) || decide (1114111<v) || decide (55296<=v/\v<=57343))) = !(decide (v<65536) || decide (1114111<v)):=by
  by_cases c:v<65536
  ·simp [c]
  ·have:decide (55296<=v/\v<=57343)=false:=by rw [decide_eq_false_iff_not];omega
   rw [this,Bool.or_false]
 rw [e]
 simp only [Bool.and_assoc]
def Bnd (k v:Nat):Prop:=(k=1/\v<32)\/(k=2/\v<2048)\/(k=3/\v<131072)\/(k=4/\v<8388608)
theorem Bnd.on {k v x:Nat} (h:Bnd k v) (hk:k<=3):Bnd (k+1) (v*64+x%64):=by unfold Bnd at *;omega
theorem Bnd.lt {k v:Nat} (h:Bnd k v):v<8388608:=by unfold Bnd at h;omega
theorem byte8 (p:Nat->Bool) (h:(List.range 256).all p=true) (c:Nat) (h1:c<256):p c=true:=by
 rw [List.all_eq_true] at h
 exact h _ (List.mem_range.2 h1)
theorem w64 (c:Nat) (h:c<256):wrap64 (c:Int)=c:=by
 have:=byte8 (fun n=>wrap64 (n:Int) == (n:Int)) (by decide +kernel) c h
 simpa using this
theorem a31 (c:Nat) (h:c<256):bits .and .i64 (c:Int) 31=((c%32:Nat):Int):=by
 have:=byte8 (fun n=>bits .and .i64 (n:Int) 31 == ((n%32:Nat):Int)) (by decide +kernel) c h
 simpa using this
theorem a15 (c:Nat) (h:c<256):bits .and .i64 (c:Int) 15=((c%16:Nat):Int):=by
 have:=byte8 (fun n=>bits .and .i64 (n:Int) 15 == ((n%16:Nat):Int)) (by decide +kernel) c h
 simpa using this
theorem a7 (c:Nat) (h:c<256):bits .and .i64 (c:Int) 7=((c%8:Nat):Int):=by
 have:=byte8 (fun n=>bits .and .i64 (n:Int) 7 == ((n%8:Nat):Int)) (by decide +kernel) c h
 simpa using this
theorem a192 (c:Nat) (h:c<256):(bits .and .u8 (c:Int) 192 != 128) = !(cnt8 c):=by
 have:=byte8 (fun n=>(bits .and .u8 (n:Int) 192 != 128) == !(cnt8 n)) (by decide +kernel) c h
 simpa using this
theorem a63 (c:Nat) (h:c<256):bits .and .u8 (c:Int) 63=((c%64:Nat):Int):=by
 have:=byte8 (fun n=>bits .and .u8 (n:Int) 63 == ((n%64:Nat):Int)) (by decide +kernel) c h
 simpa using this
theorem or6 (v x:Nat) (h:v<8388608) (hx:x<64):bits .or .i64 ((v:Int)*64) (x:Int)=(v:Int)*64+(x:Int):=by
 have e1:(BitVec.ofInt 64 ((v:Int)*64)).toNat=v*64:=by rw [BitVec.toNat_ofInt];omega
 have e2:(BitVec.ofInt 64 (x:Int)).toNat=x:=by rw [BitVec.toNat_ofInt];omega
 show IntKind.i64.wrap (((BitVec.ofInt 64 ((v:Int)*64) ||| BitVec.ofInt 64 (x:Int)).toNat:Nat):Int)=_
 rw [BitVec.toNat_or,e1,e2,nat_join 6 _ _ (by simp only [Nat.reducePow];omega) (by simp only [Nat.reducePow];omega),IntKind.wrap_i64]
 omega
theorem by8_get (s:ByteArray) (j:Nat) (h:j<s.size):s[j].toNat=by8 s.data.toList j:=by
 unfold by8
 have hl:j<s.data.toList.length:=by simpa using h
 rw [List.getD_eq_getElem?_getD,List.getElem?_eq_getElem hl]
 rfl
end Rep
end Go.Proofs.YtlcpagiljfpbpaaGreatDoor

