/- Texts that the claim needs. -/
import Derived.Test.YtmfcojpjpgldhaaGreatDoorQEBy5
import Derived.Defers
import Derived.Recover
import Derived.Laws.Pointers
import Derived.Test.YtmfcojpjpgldhaaGreatDoorQEBy2
import Derived.Lib.ValidU
import Derived.Ground.NamesProg
import Derived.WalkMore
import Derived.Shelf.Lay
import Derived.Shelf.Unicode.ValidAny
import Derived.Test.YtmfcojpjpgldhaaGreatDoorQEBy6
namespace Go.Proofs.YtmfcojpjpgldhaaGreatDoor
open Go.RowKit aA
set_option linter.unusedVariables false
namespace aA
end aA
end Go.Proofs.YtmfcojpjpgldhaaGreatDoor
namespace Go.Proofs.YtmfcojpjpgldhaaGreatDoor
open Go.RowKit aA Go.Proofs.Tryz
set_option linter.unusedVariables false
set_option maxHeartbeats 2000000
theorem aaj {σ:Type} (w0:World) (S:Nat->Prop) (Inv:σ->World->Prop) (step:σ->Sn->Nat->Option σ) (k:Int) (o:Option Addr) (c:Nat) (l:IL 0) (dep:Nat) (s:σ) (w:World) (hs:Inv s w) :
  Calls prog 67 #[.slice o 0 c,.int .i64 dep,.func (.func 27) #[] #[]] w λe w' =>
   Kp S w w'/\((∃s',jC step 0 l dep s=some s'/\e=.returned (.tuple #[])/\Inv s' w')\/(jC step 0 l dep s=none/\e=.panicked (gave k))):=by
 have Hs:=ag hs;clear hs;go_enter func67,ntmps67;go_wp2_with fail;go_loopw [10] (λi wr=>i=.int .i64 0/\wr=w) (λi _=>0)
 case atStart=>exact ⟨rfl,rfl⟩
 case round =>
  obtain ⟨rfl,rfl⟩:=hrel;go_wp2;go_end0;exact ⟨Kp.refl S _,.inl ⟨s,rfl,rfl,Hs.out⟩⟩
theorem aak {σ:Type} (w0:World) (S:Nat->Prop) (hS:∀k,S k->w0.heap.size<=k) (Inv:σ->World->Prop) (hI:∀s w w',Below w.heap.size w w'->Inv s w->Inv s w')
  (step:σ->Sn->Nat->Option σ) (k:Int) (see:qg 27 (λx y=>#[x,y]) w0 S Inv step k) (d:Nat) (IH:yP (.func (.func 27) #[] #[]) w0 S Inv step k d)
  (v:Value) (l:List (Ins (IL d))) (dep:Nat) (s:σ) (w:World) (hAt:Row 7 (fA w0 (At w0 d)) v l) (hb:Below w0.heap.size w0 w) (hs:Inv s w) (dR:∀k,S k->k<w.heap.size) (hd:dep+(d+1)<=4611686018427387904) :
  Calls prog 67 #[v,.int .i64 dep,.func (.func 27) #[] #[]] w λe w' =>
   Kp S w w'/\((∃s',rest step d l dep 0 s=some s'/\e=.returned (.tuple #[])/\Inv s' w')\/(rest step d l dep 0 s=none/\e=.panicked (gave k))):=by
 have hlen:=hAt.1;obtain ⟨o,cap2,hv⟩:=Row.len hAt;have hx:=Row.some hAt;subst hv;obtain ⟨R,hR⟩:∃R,R=rest step d l dep 0 s:=⟨_,rfl⟩;rw [<- hR];have HR:=ag hR;have HX:=ag hx;clear hx hAt hR;generalize hn:l.length=n at *;have zS:=ag see;have dh:=ag IH;have HI:=ag hI;have HS:=ag hS;have aX:=ag dR;have HB:=ag hb;have Hs:=ag hs;clear see IH hI hS hb hs dR;go_enter func67,ntmps67;go_wp2_with fail;go_loopw [10] (λi wr=>∃(j:Nat) (sj:σ),j<=n/\i=.int .i64 j/\Hid (R=rest step d l dep j sj)/\Hid (Kp S w wr)/\Hid (Inv sj wr)) (λi _=>n-(RowKit.intOf i).toNat)
 case atStart=>exact ⟨0,s,by omega,rfl,HR,Kp.refl S w,Hs⟩
 case round =>
  obtain ⟨j,sj,hj,rfl,HK,iA,mi⟩:=hrel;by_cases hgo:j<n
  ·obtain ⟨b,off,mf,hv2,hx⟩:=HX.out (by omega);injection hv2 with ho h2 h3;subst ho;obtain ⟨x,hxk⟩:∃x,l[j]?=some x:=⟨_,aY (by omega)⟩;have hbr:=Kp.below HS.out HB.out iA.out;have hx':=(hx j x hxk).on hbr (At.on hbr d);have c0:=hx'.op;have c1:=hx'.a;have c2:=hx'.b;have c3:=hx'.n;obtain ⟨lv,c4,a4⟩:=hx'.labels;obtain ⟨bv,c5,_⟩:=hx'.body;obtain ⟨ev,c6,_⟩:=hx'.els;obtain ⟨ow,uQ,a5⟩:=(hx j x hxk).body;obtain ⟨uR,uS,a6⟩:=(hx j x hxk).els;obtain rfl:ow=bv:=Option.some.inj ((aj hbr uQ).symm.trans c5);obtain rfl:uR=ev:=Option.some.inj ((aj hbr uS).symm.trans c6);have HN:=ag (HK.out.trans (EF hxk));obtain ⟨lo,lc,rfl⟩:=Row.len a4;obtain ⟨bo,bc,rfl⟩:=At.len d ow x.body a5;obtain ⟨eo,ec,rfl⟩:=At.len d uR x.els a6;have uT:=zS.out sj (sn x) (.slice lo x.labels.length lc) (.slice bo (size d x.body) bc) (.slice eo (size d x.els) ec) dep;generalize hnb:size d x.body=nb at *;generalize hne:size d x.els=ne at *;generalize hnl:x.labels.length=nl at *;have A4:=ag a4;have A5:=ag a5;have A6:=ag a6;have vS:=ag hnb;have bH:=ag hne;have bV:=ag hnl;have rU:=ag hbr;have rL:=ag uT;clear hx' h2 h3 HX a4 a5 a6 hxk hnb hne hnl hbr hx uQ uS uT HK;go_upto_region 3 with fail;obtain ⟨wa,aG⟩:∃wa,wa=wr.alloc (Obj.cells #[.int .i64 x.op,.int .i64 x.a,.int .i64 x.b,.int .i64 x.n,.slice lo nl lc,.slice bo nb bc,.slice eo ne ec] 49):=⟨_,rfl⟩;rw [<- aG];have hsz:wa.heap.size=wr.heap.size+1:=by rw [aG];exact size_alloc _ _
   have n0:wa.cell? ⟨wr.heap.size,0,none⟩=some (.int .i64 x.op):=by rw [aG];exact bQ _ _ _ _ _ rfl
   have n1:wa.cell? ⟨wr.heap.size,1,none⟩=some (.int .i64 x.a):=by rw [aG];exact bQ _ _ _ _ _ rfl
   have n2:wa.cell? ⟨wr.heap.size,2,none⟩=some (.int .i64 x.b):=by rw [aG];exact bQ _ _ _ _ _ rfl
   have n3:wa.cell? ⟨wr.heap.size,3,none⟩=some (.int .i64 x.n):=by rw [aG];exact bQ _ _ _ _ _ rfl
   have n4:wa.cell? ⟨wr.heap.size,4,none⟩=some (.slice lo nl lc):=by rw [aG];exact bQ _ _ _ _ _ rfl
   have n5:wa.cell? ⟨wr.heap.size,5,none⟩=some (.slice bo nb bc):=by rw [aG];exact bQ _ _ _ _ _ rfl
   have n6:wa.cell? ⟨wr.heap.size,6,none⟩=some (.slice eo ne ec):=by rw [aG];exact bQ _ _ _ _ _ rfl
   have hka:Hid (Kp S w wa):=by rw [aG];exact iA.out.alloc _
   have hra:Below wr.heap.size wr wa:=by rw [aG];exact (Below.refl _ wr).alloc (aI _) _
   have mh:=ag hra;clear aG hra c0 c1 c2 c3 c4 c5 c6;go_wp2_with fail;refine (rL.out wa (Kp.below HS.out HB.out hka.out) (HI.out _ _ _ mh.out mi.out) (A4.out.on mh.out) ⟨bo,bc,by rw [<- vS.out];rfl⟩ ⟨eo,ec,by rw [<- bH.out];rfl⟩ (by omega)).mono ?_;rintro e u ⟨hk1,hcase⟩;have aO:=ag hk1;have hwr:¬ S wr.heap.size:=λhh=>by have h1:=aX.out _ hh;have h2:=iA.out.size;omega
   have bg:=ag hwr;have jB:=ag (hka.out.trans hk1);have m5:=(hk1.cell (p:=⟨wr.heap.size,5,none⟩) (by show wr.heap.size<_;omega) hwr).trans n5;have m6:=(hk1.cell (p:=⟨wr.heap.size,6,none⟩) (by show wr.heap.size<_;omega) hwr).trans n6;have G6:=hk1.size;clear hk1 hwr n0 n1 n2 n3 n4 n5 n6;rcases hcase with ⟨s1,e1,rfl,i1⟩|⟨e1,rfl⟩
   ·have I1:=ag i1;have E1:=ag e1;clear i1 e1;go_wp2_with fail;refine (dh.out _ x.body (dep+1) s1 u A5.out (Kp.below HS.out HB.out jB.out) I1.out (λq hq=>nH (aX.out q hq) jB.out.size) (by omega)).mono ?_;rintro e u2 ⟨hk2,hcase⟩;have oD:=ag (jB.out.trans hk2);have p6:=(hk2.cell (p:=⟨wr.heap.size,6,none⟩) (by show wr.heap.size<_;omega) bg.out).trans m6;clear hk2 m5 m6;rcases hcase with ⟨s2,e2,rfl,i2⟩|⟨e2,rfl⟩
    ·have I2:=ag i2;have E2:=ag e2;clear i2 e2;go_wp2_with fail;refine (dh.out _ x.els (dep+1) s2 u2 A6.out (Kp.below HS.out HB.out oD.out) I2.out (λq hq=>nH (aX.out q hq) oD.out.size) (by omega)).mono ?_;rintro e u3 ⟨hk3,hcase⟩;have uU:=ag (oD.out.trans hk3);clear hk3 p6;rcases hcase with ⟨s3,e3,rfl,i3⟩|⟨e3,rfl⟩
     ·have HF:Hid (R=rest step d l dep (j+1) s3):=by
       have:=HN.out;rw [E1.out,Option.bind_some,E2.out,Option.bind_some,e3,Option.bind_some] at this;exact this
      have I3:=ag i3;clear i3 e3;go_wp2;go_roundw
      case rel=>exact ⟨j+1,s3,by omega,by go_num,HF,uU,I3⟩
      case measure=>simp [RowKit.intOf];omega
     have HF:R=none:=by
      have:=HN.out;rw [E1.out,Option.bind_some,E2.out,Option.bind_some,e3,Option.bind_none] at this;exact this
     go_wp2;exact ⟨rfl,uU.out,.inr ⟨HF,rfl⟩⟩
    have HF:R=none:=by
     have:=HN.out;rw [E1.out,Option.bind_some,e2,Option.bind_none] at this;exact this
    go_wp2;exact ⟨rfl,oD.out,.inr ⟨HF,rfl⟩⟩
   have HF:R=none:=by
    have:=HN.out;rw [e1,Option.bind_none] at this;exact this
   go_wp2;exact ⟨rfl,jB.out,.inr ⟨HF,rfl⟩⟩
  have HE:R=some sj:=HK.out.trans (rest_end (by omega));have kH:=ag HE;clear HE HK;go_wp2;go_end0;exact ⟨iA.out,.inl ⟨sj,kH.out,rfl,mi.out⟩⟩
theorem KS {σ:Type} (w0:World) (S:Nat->Prop) (hS:∀k,S k->w0.heap.size<=k) (Inv:σ->World->Prop) (hI:∀s w w',Below w.heap.size w w'->Inv s w->Inv s w')
  (step:σ->Sn->Nat->Option σ) (k:Int) (see:qg 27 (λx y=>#[x,y]) w0 S Inv step k):∀(d:Nat),yP (.func (.func 27) #[] #[]) w0 S Inv step k d
 | 0=>λv l dep s w ⟨o,c,hv⟩ hb hs dR hd=>by
  subst hv;exact aaj w0 S Inv step k o c l dep s w hs
 | d+1=>λv l dep s w hAt hb hs dR hd=>aak w0 S hS Inv hI step k see d (KS w0 S hS Inv hI step k see d) v l dep s w hAt hb hs dR hd
theorem UQ {σ:Type} (w0:World) (S:Nat->Prop) (hS:∀k,S k->w0.heap.size<=k) (Inv:σ->World->Prop) (hI:∀s w w',Below w.heap.size w w'->Inv s w->Inv s w')
  (step:σ->Sn->Nat->Option σ) (k:Int) (see:qg 27 (λx y=>#[x,y]) w0 S Inv step k) (d:Nat) (hd:d<=4611686018427387904)
  (v0 v1 v2 v3 v4 v5 v6 v7 v8 v9:Value) (l:List (gy d)) (s:σ) (w:World) (hAt:Row 3 (jW w0 d) v2 l) (hT:zK v0 v1 v3 v4 v5 v6 v7 v8 v9) (hb:Below w0.heap.size w0 w) (hs:Inv s w) (dR:∀k,S k->k<w.heap.size) :
  Calls prog 26 #[.agg #[v0,v1,v2,v3,v4,v5,v6,v7,v8,v9],.func (.func 27) #[] #[]] w λe w' =>
   Kp S w w'/\((∃s',fJ step d l s=some s'/\e=.returned (.tuple #[])/\Inv s' w')\/(fJ step d l s=none/\e=.panicked (gave k))):=by
 have hlen:=hAt.1;obtain ⟨o,cap2,hv⟩:=Row.len hAt;have hx:=Row.some hAt;subst hv;obtain ⟨⟨o0,m0,c0,rfl⟩,⟨o1,m1,c1,rfl⟩,⟨o3,m3,c3,rfl⟩,⟨o4,m4,c4,rfl⟩,⟨o5,m5,c5,rfl⟩,⟨o6,m6,c6,rfl⟩,⟨o7,m7,c7,rfl⟩,⟨o8,m8,c8,rfl⟩,⟨o9,m9,c9,rfl⟩⟩:=hT;obtain ⟨R,hR⟩:∃R,R=fJ step d l s:=⟨_,rfl⟩;rw [<- hR];have HR:Hid (R=fJ step d (l.drop 0) s):=hR;have HX:=ag hx;clear hx hAt hR;generalize hn:l.length=n at *;have zM:=ag (KS w0 S hS Inv hI step k see d);have HI:=ag hI;have HS:=ag hS;have aX:=ag dR;have HB:=ag hb;have Hs:=ag hs;clear see hI hS hb hs dR;go_enter func26,ntmps26;go_wp2_with fail;go_loopw [9] (λi wr=>∃(j:Nat) (sj:σ),j<=n/\i=.int .i64 j/\Hid (R=fJ step d (l.drop j) sj)/\Hid (Kp S w wr)/\Hid (Inv sj wr)) (λi _=>n-(RowKit.intOf i).toNat)
 case atStart=>exact ⟨0,s,by omega,rfl,HR,(Kp.refl S w).alloc _,HI.out _ _ _ ((Below.refl _ w).alloc (aI _) _) Hs.out⟩
 case round =>
  obtain ⟨j,sj,hj,rfl,HK,iA,mi⟩:=hrel;by_cases hgo:j<n
  ·obtain ⟨b,off,mf,hv2,hx⟩:=HX.out (by omega);injection hv2 with ho h2 h3;subst ho;obtain ⟨x,hxk⟩:∃x,l[j]?=some x:=⟨_,aY (by omega)⟩;have hbr:=Kp.below HS.out HB.out iA.out;have hx':=(hx j x hxk).on hbr;have c0:=hx'.type;obtain ⟨lv,c1,a1⟩:=hx'.locals;obtain ⟨ow,c2',a2⟩:=(hx j x hxk).body;have c2:=aj hbr c2';have HN:=ag (HK.out.trans (Eo hxk));obtain ⟨lo,lc,rfl⟩:=Row.len a1;obtain ⟨bo,bc,rfl⟩:=At.len d ow x.body a2;generalize hnb:size d x.body=nb at *;generalize hnl:x.locals.length=nl at *;have A2:=ag a2;clear hx' h2 h3 HX a1 a2 hxk hnb hnl hbr hx c2' HK;go_upto_region 4 with fail;obtain ⟨wa,aG⟩:∃wa,wa=wr.alloc (Obj.cells #[.int .i64 x.type,.slice lo nl lc,.slice bo nb bc] 45):=⟨_,rfl⟩;rw [<- aG];have hsz:wa.heap.size=wr.heap.size+1:=by rw [aG];exact size_alloc _ _
   have n2:wa.cell? ⟨wr.heap.size,2,none⟩=some (.slice bo nb bc):=by rw [aG];exact bQ _ _ _ _ _ rfl
   have hka:Hid (Kp S w wa):=by rw [aG];exact iA.out.alloc _
   have hra:Below wr.heap.size wr wa:=by rw [aG];exact (Below.refl _ wr).alloc (aI _) _
   have mh:=ag hra;clear aG hra c0 c1 c2;go_wp2_with fail;refine (zM.out _ x.body 0 sj wa A2.out (Kp.below HS.out HB.out hka.out) (HI.out _ _ _ mh.out mi.out) (λq hq=>nH (aX.out q hq) hka.out.size) (by omega)).mono ?_;rintro e u ⟨hk1,hcase⟩;have jB:=ag (hka.out.trans hk1);clear hk1;rcases hcase with ⟨s1,e1,rfl,i1⟩|⟨e1,rfl⟩
   ·have HF:Hid (R=fJ step d (l.drop (j+1)) s1):=by
     have:=HN.out;rw [e1,Option.bind_some] at this;exact this
    have I1:=ag i1;clear i1 e1;go_wp2;go_roundw
    case rel=>exact ⟨j+1,s1,by omega,by go_num,HF,jB,I1⟩
    case measure=>simp [RowKit.intOf];omega
   have HF:R=none:=by
    have:=HN.out;rw [e1,Option.bind_none] at this;exact this
   go_wp2;exact ⟨rfl,jB.out,.inr ⟨HF,rfl⟩⟩
  have HE:R=some sj:=HK.out.trans (Ep (by omega));have kH:=ag HE;clear HE HK;go_wp2;go_end0;exact ⟨iA.out,.inl ⟨sj,kH.out,rfl,mi.out⟩⟩
theorem Yc {σ:Type} (w0:World) (S:Nat->Prop) (Inv:σ->World->Prop) (step:σ->Sn->Nat->Option σ) (k:Int) (o:Option Addr) (c:Nat) (l:IL 0) (dep:Nat) (s:σ) (w:World) (hs:Inv s w) :
  Calls prog 67 #[.slice o 0 c,.int .i64 dep,.func (.func 29) #[] #[]] w λe w' =>
   Kp S w w'/\((∃s',jC step 0 l dep s=some s'/\e=.returned (.tuple #[])/\Inv s' w')\/(jC step 0 l dep s=none/\e=.panicked (gave k))):=by
 have Hs:=ag hs;clear hs;go_enter func67,ntmps67;go_wp2_with fail;go_loopw [10] (λi wr=>i=.int .i64 0/\wr=w) (λi _=>0)
 case atStart=>exact ⟨rfl,rfl⟩
 case round =>
  obtain ⟨rfl,rfl⟩:=hrel;go_wp2;go_end0;exact ⟨Kp.refl S _,.inl ⟨s,rfl,rfl,Hs.out⟩⟩
theorem Yd {σ:Type} (w0:World) (S:Nat->Prop) (hS:∀k,S k->w0.heap.size<=k) (Inv:σ->World->Prop) (hI:∀s w w',Below w.heap.size w w'->Inv s w->Inv s w')
  (step:σ->Sn->Nat->Option σ) (k:Int) (see:qg 29 (λx y=>#[x,y]) w0 S Inv step k) (d:Nat) (IH:yP (.func (.func 29) #[] #[]) w0 S Inv step k d)
  (v:Value) (l:List (Ins (IL d))) (dep:Nat) (s:σ) (w:World) (hAt:Row 7 (fA w0 (At w0 d)) v l) (hb:Below w0.heap.size w0 w) (hs:Inv s w) (dR:∀k,S k->k<w.heap.size) (hd:dep+(d+1)<=4611686018427387904) :
  Calls prog 67 #[v,.int .i64 dep,.func (.func 29) #[] #[]] w λe w' =>
   Kp S w w'/\((∃s',rest step d l dep 0 s=some s'/\e=.returned (.tuple #[])/\Inv s' w')\/(rest step d l dep 0 s=none/\e=.panicked (gave k))):=by
 have hlen:=hAt.1;obtain ⟨o,cap2,hv⟩:=Row.len hAt;have hx:=Row.some hAt;subst hv;obtain ⟨R,hR⟩:∃R,R=rest step d l dep 0 s:=⟨_,rfl⟩;rw [<- hR];have HR:=ag hR;have HX:=ag hx;clear hx hAt hR;generalize hn:l.length=n at *;have zS:=ag see;have dh:=ag IH;have HI:=ag hI;have HS:=ag hS;have aX:=ag dR;have HB:=ag hb;have Hs:=ag hs;clear see IH hI hS hb hs dR;go_enter func67,ntmps67;go_wp2_with fail;go_loopw [10] (λi wr=>∃(j:Nat) (sj:σ),j<=n/\i=.int .i64 j/\Hid (R=rest step d l dep j sj)/\Hid (Kp S w wr)/\Hid (Inv sj wr)) (λi _=>n-(RowKit.intOf i).toNat)
 case atStart=>exact ⟨0,s,by omega,rfl,HR,Kp.refl S w,Hs⟩
 case round =>
  obtain ⟨j,sj,hj,rfl,HK,iA,mi⟩:=hrel;by_cases hgo:j<n
  ·obtain ⟨b,off,mf,hv2,hx⟩:=HX.out (by omega);injection hv2 with ho h2 h3;subst ho;obtain ⟨x,hxk⟩:∃x,l[j]?=some x:=⟨_,aY (by omega)⟩;have hbr:=Kp.below HS.out HB.out iA.out;have hx':=(hx j x hxk).on hbr (At.on hbr d);have c0:=hx'.op;have c1:=hx'.a;have c2:=hx'.b;have c3:=hx'.n;obtain ⟨lv,c4,a4⟩:=hx'.labels;obtain ⟨bv,c5,_⟩:=hx'.body;obtain ⟨ev,c6,_⟩:=hx'.els;obtain ⟨ow,uQ,a5⟩:=(hx j x hxk).body;obtain ⟨uR,uS,a6⟩:=(hx j x hxk).els;obtain rfl:ow=bv:=Option.some.inj ((aj hbr uQ).symm.trans c5);obtain rfl:uR=ev:=Option.some.inj ((aj hbr uS).symm.trans c6);have HN:=ag (HK.out.trans (EF hxk));obtain ⟨lo,lc,rfl⟩:=Row.len a4;obtain ⟨bo,bc,rfl⟩:=At.len d ow x.body a5;obtain ⟨eo,ec,rfl⟩:=At.len d uR x.els a6;have uT:=zS.out sj (sn x) (.slice lo x.labels.length lc) (.slice bo (size d x.body) bc) (.slice eo (size d x.els) ec) dep;generalize hnb:size d x.body=nb at *;generalize hne:size d x.els=ne at *;generalize hnl:x.labels.length=nl at *;have A4:=ag a4;have A5:=ag a5;have A6:=ag a6;have vS:=ag hnb;have bH:=ag hne;have bV:=ag hnl;have rU:=ag hbr;have rL:=ag uT;clear hx' h2 h3 HX a4 a5 a6 hxk hnb hne hnl hbr hx uQ uS uT HK;go_upto_region 3 with fail;obtain ⟨wa,aG⟩:∃wa,wa=wr.alloc (Obj.cells #[.int .i64 x.op,.int .i64 x.a,.int .i64 x.b,.int .i64 x.n,.slice lo nl lc,.slice bo nb bc,.slice eo ne ec] 49):=⟨_,rfl⟩;rw [<- aG];have hsz:wa.heap.size=wr.heap.size+1:=by rw [aG];exact size_alloc _ _
   have n0:wa.cell? ⟨wr.heap.size,0,none⟩=some (.int .i64 x.op):=by rw [aG];exact bQ _ _ _ _ _ rfl
   have n1:wa.cell? ⟨wr.heap.size,1,none⟩=some (.int .i64 x.a):=by rw [aG];exact bQ _ _ _ _ _ rfl
   have n2:wa.cell? ⟨wr.heap.size,2,none⟩=some (.int .i64 x.b):=by rw [aG];exact bQ _ _ _ _ _ rfl
   have n3:wa.cell? ⟨wr.heap.size,3,none⟩=some (.int .i64 x.n):=by rw [aG];exact bQ _ _ _ _ _ rfl
   have n4:wa.cell? ⟨wr.heap.size,4,none⟩=some (.slice lo nl lc):=by rw [aG];exact bQ _ _ _ _ _ rfl
   have n5:wa.cell? ⟨wr.heap.size,5,none⟩=some (.slice bo nb bc):=by rw [aG];exact bQ _ _ _ _ _ rfl
   have n6:wa.cell? ⟨wr.heap.size,6,none⟩=some (.slice eo ne ec):=by rw [aG];exact bQ _ _ _ _ _ rfl
   have hka:Hid (Kp S w wa):=by rw [aG];exact iA.out.alloc _
   have hra:Below wr.heap.size wr wa:=by rw [aG];exact (Below.refl _ wr).alloc (aI _) _
   have mh:=ag hra;clear aG hra c0 c1 c2 c3 c4 c5 c6;go_wp2_with fail;refine (rL.out wa (Kp.below HS.out HB.out hka.out) (HI.out _ _ _ mh.out mi.out) (A4.out.on mh.out) ⟨bo,bc,by rw [<- vS.out];rfl⟩ ⟨eo,ec,by rw [<- bH.out];rfl⟩ (by omega)).mono ?_;rintro e u ⟨hk1,hcase⟩;have aO:=ag hk1;have hwr:¬ S wr.heap.size:=λhh=>by have h1:=aX.out _ hh;have h2:=iA.out.size;omega
   have bg:=ag hwr;have jB:=ag (hka.out.trans hk1);have m5:=(hk1.cell (p:=⟨wr.heap.size,5,none⟩) (by show wr.heap.size<_;omega) hwr).trans n5;have m6:=(hk1.cell (p:=⟨wr.heap.size,6,none⟩) (by show wr.heap.size<_;omega) hwr).trans n6;have G6:=hk1.size;clear hk1 hwr n0 n1 n2 n3 n4 n5 n6;rcases hcase with ⟨s1,e1,rfl,i1⟩|⟨e1,rfl⟩
   ·have I1:=ag i1;have E1:=ag e1;clear i1 e1;go_wp2_with fail;refine (dh.out _ x.body (dep+1) s1 u A5.out (Kp.below HS.out HB.out jB.out) I1.out (λq hq=>nH (aX.out q hq) jB.out.size) (by omega)).mono ?_;rintro e u2 ⟨hk2,hcase⟩;have oD:=ag (jB.out.trans hk2);have p6:=(hk2.cell (p:=⟨wr.heap.size,6,none⟩) (by show wr.heap.size<_;omega) bg.out).trans m6;clear hk2 m5 m6;rcases hcase with ⟨s2,e2,rfl,i2⟩|⟨e2,rfl⟩
    ·have I2:=ag i2;have E2:=ag e2;clear i2 e2;go_wp2_with fail;refine (dh.out _ x.els (dep+1) s2 u2 A6.out (Kp.below HS.out HB.out oD.out) I2.out (λq hq=>nH (aX.out q hq) oD.out.size) (by omega)).mono ?_;rintro e u3 ⟨hk3,hcase⟩;have uU:=ag (oD.out.trans hk3);clear hk3 p6;rcases hcase with ⟨s3,e3,rfl,i3⟩|⟨e3,rfl⟩
     ·have HF:Hid (R=rest step d l dep (j+1) s3):=by
       have:=HN.out;rw [E1.out,Option.bind_some,E2.out,Option.bind_some,e3,Option.bind_some] at this;exact this
      have I3:=ag i3;clear i3 e3;go_wp2;go_roundw
      case rel=>exact ⟨j+1,s3,by omega,by go_num,HF,uU,I3⟩
      case measure=>simp [RowKit.intOf];omega
     have HF:R=none:=by
      have:=HN.out;rw [E1.out,Option.bind_some,E2.out,Option.bind_some,e3,Option.bind_none] at this;exact this
     go_wp2;exact ⟨rfl,uU.out,.inr ⟨HF,rfl⟩⟩
    have HF:R=none:=by
     have:=HN.out;rw [E1.out,Option.bind_some,e2,Option.bind_none] at this;exact this
    go_wp2;exact ⟨rfl,oD.out,.inr ⟨HF,rfl⟩⟩
   have HF:R=none:=by
    have:=HN.out;rw [e1,Option.bind_none] at this;exact this
   go_wp2;exact ⟨rfl,jB.out,.inr ⟨HF,rfl⟩⟩
  have HE:R=some sj:=HK.out.trans (rest_end (by omega));have kH:=ag HE;clear HE HK;go_wp2;go_end0;exact ⟨iA.out,.inl ⟨sj,kH.out,rfl,mi.out⟩⟩
theorem Mx {σ:Type} (w0:World) (S:Nat->Prop) (hS:∀k,S k->w0.heap.size<=k) (Inv:σ->World->Prop) (hI:∀s w w',Below w.heap.size w w'->Inv s w->Inv s w')
  (step:σ->Sn->Nat->Option σ) (k:Int) (see:qg 29 (λx y=>#[x,y]) w0 S Inv step k):∀(d:Nat),yP (.func (.func 29) #[] #[]) w0 S Inv step k d
 | 0=>λv l dep s w ⟨o,c,hv⟩ hb hs dR hd=>by
  subst hv;exact Yc w0 S Inv step k o c l dep s w hs
 | d+1=>λv l dep s w hAt hb hs dR hd=>Yd w0 S hS Inv hI step k see d (Mx w0 S hS Inv hI step k see d) v l dep s w hAt hb hs dR hd
theorem YP {σ:Type} (w0:World) (S:Nat->Prop) (hS:∀k,S k->w0.heap.size<=k) (Inv:σ->World->Prop) (hI:∀s w w',Below w.heap.size w w'->Inv s w->Inv s w')
  (step:σ->Sn->Nat->Option σ) (k:Int) (see:qg 29 (λx y=>#[x,y]) w0 S Inv step k) (d:Nat) (hd:d<=4611686018427387904)
  (v0 v1 v2 v3 v4 v5 v6 v7 v8 v9:Value) (l:List (gy d)) (s:σ) (w:World) (hAt:Row 3 (jW w0 d) v2 l) (hT:zK v0 v1 v3 v4 v5 v6 v7 v8 v9) (hb:Below w0.heap.size w0 w) (hs:Inv s w) (dR:∀k,S k->k<w.heap.size) :
  Calls prog 26 #[.agg #[v0,v1,v2,v3,v4,v5,v6,v7,v8,v9],.func (.func 29) #[] #[]] w λe w' =>
   Kp S w w'/\((∃s',fJ step d l s=some s'/\e=.returned (.tuple #[])/\Inv s' w')\/(fJ step d l s=none/\e=.panicked (gave k))):=by
 have hlen:=hAt.1;obtain ⟨o,cap2,hv⟩:=Row.len hAt;have hx:=Row.some hAt;subst hv;obtain ⟨⟨o0,m0,c0,rfl⟩,⟨o1,m1,c1,rfl⟩,⟨o3,m3,c3,rfl⟩,⟨o4,m4,c4,rfl⟩,⟨o5,m5,c5,rfl⟩,⟨o6,m6,c6,rfl⟩,⟨o7,m7,c7,rfl⟩,⟨o8,m8,c8,rfl⟩,⟨o9,m9,c9,rfl⟩⟩:=hT;obtain ⟨R,hR⟩:∃R,R=fJ step d l s:=⟨_,rfl⟩;rw [<- hR];have HR:Hid (R=fJ step d (l.drop 0) s):=hR;have HX:=ag hx;clear hx hAt hR;generalize hn:l.length=n at *;have zM:=ag (Mx w0 S hS Inv hI step k see d);have HI:=ag hI;have HS:=ag hS;have aX:=ag dR;have HB:=ag hb;have Hs:=ag hs;clear see hI hS hb hs dR;go_enter func26,ntmps26;go_wp2_with fail;go_loopw [9] (λi wr=>∃(j:Nat) (sj:σ),j<=n/\i=.int .i64 j/\Hid (R=fJ step d (l.drop j) sj)/\Hid (Kp S w wr)/\Hid (Inv sj wr)) (λi _=>n-(RowKit.intOf i).toNat)
 case atStart=>exact ⟨0,s,by omega,rfl,HR,(Kp.refl S w).alloc _,HI.out _ _ _ ((Below.refl _ w).alloc (aI _) _) Hs.out⟩
 case round =>
  obtain ⟨j,sj,hj,rfl,HK,iA,mi⟩:=hrel;by_cases hgo:j<n
  ·obtain ⟨b,off,mf,hv2,hx⟩:=HX.out (by omega);injection hv2 with ho h2 h3;subst ho;obtain ⟨x,hxk⟩:∃x,l[j]?=some x:=⟨_,aY (by omega)⟩;have hbr:=Kp.below HS.out HB.out iA.out;have hx':=(hx j x hxk).on hbr;have c0:=hx'.type;obtain ⟨lv,c1,a1⟩:=hx'.locals;obtain ⟨ow,c2',a2⟩:=(hx j x hxk).body;have c2:=aj hbr c2';have HN:=ag (HK.out.trans (Eo hxk));obtain ⟨lo,lc,rfl⟩:=Row.len a1;obtain ⟨bo,bc,rfl⟩:=At.len d ow x.body a2;generalize hnb:size d x.body=nb at *;generalize hnl:x.locals.length=nl at *;have A2:=ag a2;clear hx' h2 h3 HX a1 a2 hxk hnb hnl hbr hx c2' HK;go_upto_region 4 with fail;obtain ⟨wa,aG⟩:∃wa,wa=wr.alloc (Obj.cells #[.int .i64 x.type,.slice lo nl lc,.slice bo nb bc] 45):=⟨_,rfl⟩;rw [<- aG];have hsz:wa.heap.size=wr.heap.size+1:=by rw [aG];exact size_alloc _ _
   have n2:wa.cell? ⟨wr.heap.size,2,none⟩=some (.slice bo nb bc):=by rw [aG];exact bQ _ _ _ _ _ rfl
   have hka:Hid (Kp S w wa):=by rw [aG];exact iA.out.alloc _
   have hra:Below wr.heap.size wr wa:=by rw [aG];exact (Below.refl _ wr).alloc (aI _) _
   have mh:=ag hra;clear aG hra c0 c1 c2;go_wp2_with fail;refine (zM.out _ x.body 0 sj wa A2.out (Kp.below HS.out HB.out hka.out) (HI.out _ _ _ mh.out mi.out) (λq hq=>nH (aX.out q hq) hka.out.size) (by omega)).mono ?_;rintro e u ⟨hk1,hcase⟩;have jB:=ag (hka.out.trans hk1);clear hk1;rcases hcase with ⟨s1,e1,rfl,i1⟩|⟨e1,rfl⟩
   ·have HF:Hid (R=fJ step d (l.drop (j+1)) s1):=by
     have:=HN.out;rw [e1,Option.bind_some] at this;exact this
    have I1:=ag i1;clear i1 e1;go_wp2;go_roundw
    case rel=>exact ⟨j+1,s1,by omega,by go_num,HF,jB,I1⟩
    case measure=>simp [RowKit.intOf];omega
   have HF:R=none:=by
    have:=HN.out;rw [e1,Option.bind_none] at this;exact this
   go_wp2;exact ⟨rfl,jB.out,.inr ⟨HF,rfl⟩⟩
  have HE:R=some sj:=HK.out.trans (Ep (by omega));have kH:=ag HE;clear HE HK;go_wp2;go_end0;exact ⟨iA.out,.inl ⟨sj,kH.out,rfl,mi.out⟩⟩
end Go.Proofs.YtmfcojpjpgldhaaGreatDoor
namespace Go.Proofs
open Go.RowKit Go.Shelf Go.Lib Go.Proofs.Tryz
shelf_lay Lays.n196 Nm 196 at Tryz as Tryz.laysValid
namespace YtmfcojpjpgldhaaGreatDoor
open Go.RowKit aA
namespace aA
def nm (s:ByteArray):Bool:=decide ((s.size:Int)<=64)&&Lib.validD s.data.toList
end aA
def ym (w:World):Prop:=Lib.Utf8Tabs (Tryz.laysValid_ren.g 3) (Tryz.laysValid_ren.g 4) w
end YtmfcojpjpgldhaaGreatDoor
end Go.Proofs
namespace Go.Proofs.YtmfcojpjpgldhaaGreatDoor
open Go.RowKit aA Go.Proofs.Tryz
set_option linter.unusedVariables false
set_option maxHeartbeats 4000000
theorem YL (k:Int) (w:World):(Instr.typeAssert (.iface 36 (.int .i64 k)) 20 36 true).run prog w=.ok (.tuple #[.int .i64 k,.bool true]) w:=by
 kernel_rfl
theorem YM (w:World):(Instr.typeAssert .nilIface 20 36 true).run prog w=.ok (.tuple #[.int .i64 0,.bool false]) w:=by
 kernel_rfl
theorem Bi (p:Addr) (x k:Int) (older:List PanicEntry) (w:World) (hc:w.cell? p=some (.int .i64 x)) (hz:w.frozen? p=false) :
  CallsD prog 23 #[.pointer (some p)] (.panicking ({ v:=.iface 36 (.int .i64 k),recovered:=false } :: older)) w λe u' w' =>
   e=.returned (.tuple #[])/\u'=.panicking ({ v:=.iface 36 (.int .i64 k),recovered:=true } :: older)/\w'=w.setCell p (.int .i64 k):=by
 refine callsD_of_wpS func23 rfl λc₀ cs hu=>?_;apply wpS_seq;apply wpS_region;simp [wpOpsS,go_sem,recoverD,hu,ntmps23,Exit.thenS,YL];apply wpS_seq;apply wpS_region;simp [wpOpsS,go_sem,Exit.thenS];refine wpS_cond (t:=true) (by simp [Act.eval,Array.replicate]) ?_;simp only [if_true];apply wpS_region;simp [wpOpsS,go_sem,hc,hz,bodyPostS,results,results23]
theorem YN (p:Addr) (w:World) :
  CallsD prog 23 #[.pointer (some p)] .returning w λe u' w'=>e=.returned (.tuple #[])/\u'=.returning/\w'=w:=by
 refine callsD_of_wpS func23 rfl λc₀ cs hu=>?_;apply wpS_seq;apply wpS_region;simp [wpOpsS,go_sem,recoverD,hu,ntmps23,Exit.thenS,YM];apply wpS_seq;apply wpS_region;simp [wpOpsS,go_sem,Exit.thenS];refine wpS_cond (t:=false) (by simp [Act.eval,Array.replicate]) ?_;simp only [Bool.false_eq_true,if_false];refine wpS_of_wp (wp_skip ?_);cases c₀;simp_all [bodyPostS,results,results23]
namespace aA
def dX {d:Nat} (x:Ins (IL d)):Bool:=qf x.op&&rH (sn x)
def AP (t:FT):Bool:=t.params.all typ&&t.results.all typ
def vJ (i:rY):Bool:=(nm i.mod&&(nm i.name&&true))&&(idx i.type&&true)
def rM {d:Nat} (f:gy d):Bool:=(idx f.type&&true)&&f.locals.all typ
def cB (l:gN):Bool:=(idx l.min&&(idx l.max&&true))&&(l.has || l.max==0)
def nP {d:Nat} (g:qp d):Bool:=(typ g.type&&true)&&dX g.init
def mg (e:rZ):Bool:=(nm e.name&&true)&&((decide (0<=e.kind)&&decide (e.kind<=3))&&(idx e.index&&true))
def uJ {d:Nat} (m:Mod d):Bool :=
 m.types.all AP&&(m.imports.all vJ&&(m.funcs.all rM&&((m.tables++m.aD).all cB&&(m.globals.all nP&&(m.exports.all mg&&(m.start.all idx&&(m.elems.all (λe=>dX e.offset&&e.funcs.all idx)&&m.ax.all λx=>dX x.offset)))))))
def mF {d:Nat} (m:Mod d):Int :=
 if nO m=true then
  match fJ kG d m.funcs 0 with
  | none=>3
  | some _ =>
   match fJ vW d m.funcs () with
   | none=>3
   | some _ =>
    match fJ yR d m.funcs () with
    | none=>4
    | some _ =>
     if uJ m=true then
      match fJ vI d m.funcs () with
      | none=>30
      | some _=>0
     else 30
 else 3
structure Bj (w:World) (v0 v1 v2 v3 v4 v5 v6 v7 v8 v9:Value) (u:World):Prop where
 box:dN w v0 v1 v2 v3 v4 v5 v6 v7 v8 v9 u
 err:u.cell? ⟨w.heap.size+1,0,none⟩=some (.int .i64 0)
 fz:u.frozen? ⟨w.heap.size+1,0,none⟩=false
theorem Bj.on {w:World} {v0 v1 v2 v3 v4 v5 v6 v7 v8 v9:Value} {u u':World} (hb:Below u.heap.size u u') (h:Bj w v0 v1 v2 v3 v4 v5 v6 v7 v8 v9 u):Bj w v0 v1 v2 v3 v4 v5 v6 v7 v8 v9 u' :=
 ⟨h.box.on hb,aj hb h.err,(hb.frozen (p:=⟨w.heap.size+1,0,none⟩) (World.block_lt_of_cell? _ _ h.err)).trans h.fz⟩
theorem Bj.start (w:World) (t t2:TypeId) (v0 v1 v2 v3 v4 v5 v6 v7 v8 v9:Value):Bj w v0 v1 v2 v3 v4 v5 v6 v7 v8 v9 ((w.alloc (.cells #[v0,v1,v2,v3,v4,v5,v6,v7,v8,v9] t)).alloc (.cells #[.int .i64 0] t2)) :=
 ⟨(dN.start w t v0 v1 v2 v3 v4 v5 v6 v7 v8 v9).new _,by rw [World.cell?_alloc_at _ _ _ _ (by simp)];rfl,by rw [World.frozen?_alloc_at _ _ _ _ (by simp)]⟩
end aA
theorem Sk {I:World->Prop} (C:dB I) (d:Nat) (hd:d<=4611686018427387904) (v0 v1 v2 v3 v4 v5 v6 v7 v8 v9:Value) (m:Mod d) (w:World) (hI:I w) (hM:da w d v0 v1 v2 v3 v4 v5 v6 v7 v8 v9 m) (hsz:∀x ∈ m.ax,x.bytes.size<=9223372036854775807)
  (MO:nO m=true->∀w',Below w.heap.size w w'->Calls prog 31 #[.agg #[v0,v1,v2,v3,v4,v5,v6,v7,v8,v9]] w' λe u=>iN (uJ m) 30 e/\Below w'.heap.size w' u) :
  Calls prog 12 #[.agg #[v0,v1,v2,v3,v4,v5,v6,v7,v8,v9]] w λe w'=>e=.returned (.int .i64 (mF m))/\Below w.heap.size w w':=by
 have HT:=ag hM.ten;have HM:=ag hM;have ou:=ag hI;have MP:=ag λ(w':World) (h:Below w.heap.size w w')=>Wm d v0 v1 v2 v3 v4 v5 v6 v7 v8 v9 m w' (hM.on h) hsz;have CR:=ag λ(w':World) (h:Below w.heap.size w w')=>UG d hd v0 v1 v2 v3 v4 v5 v6 v7 v8 v9 m.funcs w' (hM.on h).funcs hM.ten;have MQ:=ag λ(w':World) (h:Below w.heap.size w w')=>UQ w' (λ_=>False) (λ_ hh=>hh.elim) (λ(_:Unit) _=>True) (λ_ _ _ _ _=>trivial) vW 3 (YO w') d hd v0 v1 v2 v3 v4 v5 v6 v7 v8 v9 m.funcs () w' (hM.on h).funcs hM.ten (Below.refl _ _) trivial (λ_ hh=>hh.elim);have MR:=ag λ(w':World) (h:Below w.heap.size w w')=>YP w' (λ_=>False) (λ_ hh=>hh.elim) (λ(_:Unit) _=>True) (λ_ _ _ _ _=>trivial) yR 4 (YQ w') d hd v0 v1 v2 v3 v4 v5 v6 v7 v8 v9 m.funcs () w' (hM.on h).funcs hM.ten (Below.refl _ _) trivial (λ_ hh=>hh.elim);have MS:=ag λ(w':World) (h:Below w.heap.size w w')=>YK w' (λ_=>False) (λ_ hh=>hh.elim) (λ(_:Unit) u=>I u) (λ_ _ _ hb hi=>C.keep hb hi) vI 30 (UA C w') d hd v0 v1 v2 v3 v4 v5 v6 v7 v8 v9 m.funcs () w' (hM.on h).funcs hM.ten (Below.refl _ _) (C.keep h hI) (λ_ hh=>hh.elim);have MU:=ag MO;have aT:=ag (Bj.start w 32 36 v0 v1 v2 v3 v4 v5 v6 v7 v8 v9);obtain ⟨R,hR⟩:∃R,R=mF m:=⟨_,rfl⟩;rw [<- hR];unfold mF at hR;have HR:=ag hR;obtain ⟨o2,n2,c2,rfl⟩:=Row.slice hM.funcs;obtain ⟨⟨o0,n0,c0,rfl⟩,⟨o1,n1,c1,rfl⟩,⟨o3,n3,c3,rfl⟩,⟨o4,n4,c4,rfl⟩,⟨o5,n5,c5,rfl⟩,⟨o6,n6,c6,rfl⟩,⟨o7,n7,c7,rfl⟩,⟨o8,n8,c8,rfl⟩,⟨o9,n9,c9,rfl⟩⟩:=hM.ten;clear hM hR hsz MO hI;generalize nO m=r1 at *;generalize fJ kG d m.funcs 0=r2 at *;generalize fJ vW d m.funcs ()=r3 at *;generalize fJ yR d m.funcs ()=r4 at *;generalize uJ m=r5 at *;generalize fJ vI d m.funcs ()=r6 at *;have AL:∀(fn:Fn) (first cap:Array Value) (w:World),(Instr.makeFunc fn first cap).run prog w=.ok (.func fn first cap) w:=λ_ _ _ _=>rfl
 go_enter_defers func12,ntmps12
 go_upto_region 2 with fail;obtain ⟨wb,hwb⟩:∃wb,wb=(w.alloc (.cells #[.slice o0 n0 c0,.slice o1 n1 c1,.slice o2 n2 c2,.slice o3 n3 c3,.slice o4 n4 c4,.slice o5 n5 c5,.slice o6 n6 c6,.slice o7 n7 c7,.slice o8 n8 c8,.slice o9 n9 c9] 32)).alloc (.cells #[.int .i64 0] 36):=⟨_,rfl⟩;rw [<- hwb];rw [<- hwb] at aT;clear hwb;obtain ⟨⟨q0,q1,q2,q3,q4,q5,q6,q7,q8,q9,qb⟩,qe,qz⟩:=aT.out;clear qb;go_wp2_with fail;refine (MP.out _ aT.out.box.aL).mono ?_;rintro e w1 ⟨hN,hbb⟩;have aV:=ag (aT.out.on hbb);clear hbb q0 q1 q2 q3 q4 q5 q6 q7 q8 q9 qe qz aT MP;rcases hN with ⟨rfl,rfl⟩|⟨rfl,rfl⟩
 rotate_left
 ·have HF:R=3:=by rw [HR.out];rfl
  obtain ⟨_,qe,qz⟩:=aV.out;have sW:=ag aV.out.box.aL;clear HR;subst HF;go_wp2_with fail;refine leaves_cons (f:=23) (args:=#[.pointer (some ⟨w.heap.size+1,0,none⟩)]) (by simp) (by simp [go_sem]) ?_;refine (Bi ⟨w.heap.size+1,0,none⟩ 0 3 [] _ qe qz).mono ?_;rintro e u' w'' ⟨rfl,rfl,rfl⟩;simp [Leaves,settle,results,results12,go_sem,qe];exact mW sW.out 0 _
 obtain ⟨⟨q0,q1,q2,q3,q4,q5,q6,q7,q8,q9,qb⟩,qe,qz⟩:=aV.out;clear qb;go_wp2_with fail;refine (CR.out _ aV.out.box.aL).mono ?_;rintro e w2 ⟨hbb,hN⟩;have aX:=ag (aV.out.on hbb);clear hbb q0 q1 q2 q3 q4 q5 q6 q7 q8 q9 qe qz aV CR;rcases hN with ⟨cc,rfl,hcc,rfl⟩|⟨rfl,rfl⟩
 rotate_left
 ·have HF:R=3:=by rw [HR.out];rfl
  obtain ⟨_,qe,qz⟩:=aX.out;have sW:=ag aX.out.box.aL;clear HR;subst HF;go_wp2_with fail;refine leaves_cons (f:=23) (args:=#[.pointer (some ⟨w.heap.size+1,0,none⟩)]) (by simp) (by simp [go_sem]) ?_;refine (Bi ⟨w.heap.size+1,0,none⟩ 0 3 [] _ qe qz).mono ?_;rintro e u' w'' ⟨rfl,rfl,rfl⟩;simp [Leaves,settle,results,results12,go_sem,qe];exact mW sW.out 0 _
 obtain ⟨⟨q0,q1,q2,q3,q4,q5,q6,q7,q8,q9,qb⟩,qe,qz⟩:=aX.out;clear qb;go_wp2_with fail;refine (MQ.out _ aX.out.box.aL).mono ?_;rintro e w3 ⟨hkk,hN⟩;have hbb:=Kp.Hj hkk;clear hkk;have cG:=ag (aX.out.on hbb);clear hbb q0 q1 q2 q3 q4 q5 q6 q7 q8 q9 qe qz aX MQ;rcases hN with ⟨ss,rfl,rfl,_⟩|⟨rfl,rfl⟩
 rotate_left
 ·have HF:R=3:=by rw [HR.out];rfl
  obtain ⟨_,qe,qz⟩:=cG.out;have sW:=ag cG.out.box.aL;clear HR;subst HF;go_wp2_with fail;refine leaves_cons (f:=23) (args:=#[.pointer (some ⟨w.heap.size+1,0,none⟩)]) (by simp) (by simp [go_sem]) ?_;refine (Bi ⟨w.heap.size+1,0,none⟩ 0 3 [] _ qe qz).mono ?_;rintro e u' w'' ⟨rfl,rfl,rfl⟩;simp [Leaves,settle,results,results12,go_sem,qe];exact mW sW.out 0 _
 obtain ⟨⟨q0,q1,q2,q3,q4,q5,q6,q7,q8,q9,qb⟩,qe,qz⟩:=cG.out;clear qb;go_wp2_with fail;refine (MR.out _ cG.out.box.aL).mono ?_;rintro e w4 ⟨hkk,hN⟩;have hbb:=Kp.Hj hkk;clear hkk;have dP:=ag (cG.out.on hbb);clear hbb q0 q1 q2 q3 q4 q5 q6 q7 q8 q9 qe qz cG MR;rcases hN with ⟨ss,rfl,rfl,_⟩|⟨rfl,rfl⟩
 rotate_left
 ·have HF:R=4:=by rw [HR.out];rfl
  obtain ⟨_,qe,qz⟩:=dP.out;have sW:=ag dP.out.box.aL;clear HR;subst HF;go_wp2_with fail;refine leaves_cons (f:=23) (args:=#[.pointer (some ⟨w.heap.size+1,0,none⟩)]) (by simp) (by simp [go_sem]) ?_;refine (Bi ⟨w.heap.size+1,0,none⟩ 0 4 [] _ qe qz).mono ?_;rintro e u' w'' ⟨rfl,rfl,rfl⟩;simp [Leaves,settle,results,results12,go_sem,qe];exact mW sW.out 0 _
 obtain ⟨⟨q0,q1,q2,q3,q4,q5,q6,q7,q8,q9,qb⟩,qe,qz⟩:=dP.out;clear qb;go_wp2_with fail;refine (MU.out (by first|trivial|rfl) _ dP.out.box.aL).mono ?_
 rintro e w5 ⟨hN,hbb⟩;have mV:=ag (dP.out.on hbb);clear hbb q0 q1 q2 q3 q4 q5 q6 q7 q8 q9 qe qz dP MU;rcases hN with ⟨rfl,rfl⟩|⟨rfl,rfl⟩
 rotate_left
 ·have HF:R=30:=by rw [HR.out];rfl
  obtain ⟨_,qe,qz⟩:=mV.out;have sW:=ag mV.out.box.aL;clear HR;subst HF;go_wp2_with fail;refine leaves_cons (f:=23) (args:=#[.pointer (some ⟨w.heap.size+1,0,none⟩)]) (by simp) (by simp [go_sem]) ?_;refine (Bi ⟨w.heap.size+1,0,none⟩ 0 30 [] _ qe qz).mono ?_;rintro e u' w'' ⟨rfl,rfl,rfl⟩;simp [Leaves,settle,results,results12,go_sem,qe];exact mW sW.out 0 _
 obtain ⟨⟨q0,q1,q2,q3,q4,q5,q6,q7,q8,q9,qb⟩,qe,qz⟩:=mV.out;clear qb;go_wp2_with fail;refine (MS.out _ mV.out.box.aL).mono ?_;rintro e w6 ⟨hkk,hN⟩;have hbb:=Kp.Hj hkk;clear hkk;have xd:=ag (mV.out.on hbb);clear hbb q0 q1 q2 q3 q4 q5 q6 q7 q8 q9 qe qz mV MS;rcases hN with ⟨ss,rfl,rfl,_⟩|⟨rfl,rfl⟩
 rotate_left
 ·have HF:R=30:=by rw [HR.out];rfl
  obtain ⟨_,qe,qz⟩:=xd.out;have sW:=ag xd.out.box.aL;clear HR;subst HF;go_wp2_with fail;refine leaves_cons (f:=23) (args:=#[.pointer (some ⟨w.heap.size+1,0,none⟩)]) (by simp) (by simp [go_sem]) ?_;refine (Bi ⟨w.heap.size+1,0,none⟩ 0 30 [] _ qe qz).mono ?_;rintro e u' w'' ⟨rfl,rfl,rfl⟩;simp [Leaves,settle,results,results12,go_sem,qe];exact mW sW.out 0 _
 have HF:R=0:=by rw [HR.out];rfl
 obtain ⟨_,qe,qz⟩:=xd.out;have sW:=ag xd.out.box.aL;clear HR;subst HF;go_wp2_with fail;refine leaves_cons (f:=23) (args:=#[.pointer (some ⟨w.heap.size+1,0,none⟩)]) (by simp) (by simp [go_sem]) ?_;refine (YN ⟨w.heap.size+1,0,none⟩ _).mono ?_;rintro e u' w'' ⟨rfl,rfl,rfl⟩;simp [Leaves,settle,results,results12,go_sem,qe];exact mW sW.out 0 _
end Go.Proofs.YtmfcojpjpgldhaaGreatDoor
