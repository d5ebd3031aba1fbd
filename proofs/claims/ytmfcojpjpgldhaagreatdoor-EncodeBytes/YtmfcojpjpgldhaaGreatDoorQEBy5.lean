/- Texts that the claim needs. -/
import Derived.Test.YtmfcojpjpgldhaaGreatDoorQEBy2
import Derived.Test.YtmfcojpjpgldhaaGreatDoorQEBy4
namespace Go.Proofs.YtmfcojpjpgldhaaGreatDoor
open Go.RowKit aA Go.Proofs.Tryz
set_option linter.unusedVariables false
set_option maxHeartbeats 2000000
theorem ZE {σ:Type} (cp:Value) (w0:World) (S:Nat->Prop) (Inv:σ->World->Prop) (step:σ->Sn->Nat->Option σ) (k:Int) (o:Option Addr) (c:Nat) (l:IL 0) (dep:Nat) (s:σ) (w:World) (hs:Inv s w) :
  Calls prog 67 #[.slice o 0 c,.int .i64 dep,.func (.func 66) #[] #[cp]] w λe w' =>
   Kp S w w'/\((∃s',jC step 0 l dep s=some s'/\e=.returned (.tuple #[])/\Inv s' w')\/(jC step 0 l dep s=none/\e=.panicked (gave k))):=by
 have Hs:=ag hs;clear hs;go_enter func67,ntmps67;go_wp2_with fail;go_loopw [10] (λi wr=>i=.int .i64 0/\wr=w) (λi _=>0)
 case atStart=>exact ⟨rfl,rfl⟩
 case round =>
  obtain ⟨rfl,rfl⟩:=hrel;go_wp2;go_end0;exact ⟨Kp.refl S _,.inl ⟨s,rfl,rfl,Hs.out⟩⟩
theorem ZF {σ:Type} (cp:Value) (w0:World) (S:Nat->Prop) (hS:∀k,S k->w0.heap.size<=k) (Inv:σ->World->Prop) (hI:∀s w w',Below w.heap.size w w'->Inv s w->Inv s w')
  (step:σ->Sn->Nat->Option σ) (k:Int) (see:qg 66 (λx y=>#[x,y,cp]) w0 S Inv step k) (d:Nat) (IH:yP (.func (.func 66) #[] #[cp]) w0 S Inv step k d)
  (v:Value) (l:List (Ins (IL d))) (dep:Nat) (s:σ) (w:World) (hAt:Row 7 (fA w0 (At w0 d)) v l) (hb:Below w0.heap.size w0 w) (hs:Inv s w) (dR:∀k,S k->k<w.heap.size) (hd:dep+(d+1)<=4611686018427387904) :
  Calls prog 67 #[v,.int .i64 dep,.func (.func 66) #[] #[cp]] w λe w' =>
   Kp S w w'/\((∃s',rest step d l dep 0 s=some s'/\e=.returned (.tuple #[])/\Inv s' w')\/(rest step d l dep 0 s=none/\e=.panicked (gave k))):=by
 have hlen:=hAt.1;obtain ⟨o,cap2,hv⟩:=Row.len hAt;have hx:=Row.some hAt;subst hv;obtain ⟨R,hR⟩:∃R,R=rest step d l dep 0 s:=⟨_,rfl⟩;rw [<- hR];have HR:=ag hR;have HX:=ag hx;clear hx hAt hR;generalize hn:l.length=n at *;have zS:=ag see;have dh:=ag IH;have HI:=ag hI;have HS:=ag hS;have aX:=ag dR;have HB:=ag hb;have Hs:=ag hs;clear see IH hI hS hb hs dR;go_enter func67,ntmps67;go_wp2_with fail;go_loopw [10] (λi wr=>∃(j:Nat) (sj:σ),j<=n/\i=.int .i64 j/\Hid (R=rest step d l dep j sj)/\Hid (Kp S w wr)/\Hid (Inv sj wr)) (λi _=>n-(RowKit.intOf i).toNat)
 case atStart=>exact ⟨0,s,by omega,rfl,HR,Kp.refl S w,Hs⟩
 case round =>
  obtain ⟨j,sj,hj,rfl,HK,iA,mi⟩:=hrel;by_cases hgo:j<n
  ·obtain ⟨b,off,mf,hv2,hx⟩:=HX.out (by omega);injection hv2 with ho h2 h3;subst ho;obtain ⟨x,hxk⟩:∃x,l[j]?=some x:=⟨_,aY (by omega)⟩;have hbr:=Kp.below HS.out HB.out iA.out;have hx':=(hx j x hxk).on hbr (At.on hbr d);have c0:=hx'.op;have c1:=hx'.a;have c2:=hx'.b;have c3:=hx'.n;obtain ⟨lv,c4,a4⟩:=hx'.labels;obtain ⟨bv,c5,_⟩:=hx'.body;obtain ⟨ev,c6,_⟩:=hx'.els;obtain ⟨ow,uQ,a5⟩:=(hx j x hxk).body;obtain ⟨uR,uS,a6⟩:=(hx j x hxk).els;obtain rfl:ow=bv:=Option.some.inj ((aj hbr uQ).symm.trans c5);obtain rfl:uR=ev:=Option.some.inj ((aj hbr uS).symm.trans c6);have HN:=ag (HK.out.trans (EF hxk));obtain ⟨lo,lc,rfl⟩:=Row.len a4;obtain ⟨bo,bc,rfl⟩:=At.len d ow x.body a5;obtain ⟨eo,ec,rfl⟩:=At.len d uR x.els a6;have uT:=zS.out sj (sn x) (.slice lo x.labels.length lc) (.slice bo (size d x.body) bc) (.slice eo (size d x.els) ec) dep;generalize hnb:size d x.body=nb at *;generalize hne:size d x.els=ne at *;generalize hnl:x.labels.length=nl at *;have A4:=ag a4;have A5:=ag a5;have A6:=ag a6;have vS:=ag hnb;have bH:=ag hne;have bV:=ag hnl;have rU:=ag hbr;have rL:=ag uT;clear hx' h2 h3 HX a4 a5 a6 hxk hnb hne hnl hbr hx uQ uS uT HK;go_upto_region 3 with fail;obtain ⟨wa,aG⟩:∃wa,wa=wr.alloc (Obj.cells #[.int .i64 x.op,.int .i64 x.a,.int .i64 x.b,.int .i64 x.n,.slice lo nl lc,.slice bo nb bc,.slice eo ne ec] 49):=⟨_,rfl⟩;rw [<- aG];have hsz:wa.heap.size=wr.heap.size+1:=by rw [aG];exact size_alloc _ _
   have n0:wa.cell? ⟨wr.heap.size,0,none⟩=some (.int .i64 x.op):=by rw [aG];exact bQ _ _ _ _ _ rfl
   have n1:wa.cell? ⟨wr.heap.size,1,none⟩=some (.int .i64 x.a):=by rw [aG];exact bQ _ _ _ _ _ rfl
   have n2:wa.cell? ⟨wr.heap.size,2,none⟩=some (.int .i64 x.b):=by rw [aG];exact bQ _ _ _ _ _ rfl
   have n3:wa.cell? ⟨wr.heap.size,3,none⟩=some (.int .i64 x.n):=by rw [aG];exact bQ _ _ _ _ _ rfl
   have n4:wa.cell? ⟨wr.heap.size,4,none⟩=some (.slice lo nl lc):=by rw [aG];exact bQ _ _ _ _ _ rfl
   have n5:wa.cell? ⟨wr.heap.size,5,none⟩=some (.slice bo nb bc):=by rw [aG];exact bQ _ _ _ _ _ rfl
   have n6:wa.cell? ⟨wr.heap.size,6,none⟩=some (.slice eo ne ec):=by rw [aG];exact bQ _ _ _ _ _ rfl
   have hka:Hid (Kp S w wa):=by rw [aG];exact iA.out.alloc _
   have hra:Below wr.heap.size wr wa:=by rw [aG];exact (Below.refl _ wr).alloc (aI _) _
   have mh:=ag hra;clear aG hra c0 c1 c2 c3 c4 c5 c6;go_wp2_with fail;refine (rL.out wa (Kp.below HS.out HB.out hka.out) (HI.out _ _ _ mh.out mi.out) (A4.out.on mh.out) ⟨bo,bc,by rw [<- vS.out];rfl⟩ ⟨eo,ec,by rw [<- bH.out];rfl⟩ (by omega)).mono ?_;rintro e u ⟨hk1,hcase⟩;have aO:=ag hk1;have hwr:¬ S wr.heap.size:=λhh=>by have h1:=aX.out _ hh;have h2:=iA.out.size;omega
   have bg:=ag hwr;have jB:=ag (hka.out.trans hk1);have m5:=(hk1.cell (p:=⟨wr.heap.size,5,none⟩) (by show wr.heap.size<_;omega) hwr).trans n5;have m6:=(hk1.cell (p:=⟨wr.heap.size,6,none⟩) (by show wr.heap.size<_;omega) hwr).trans n6;have G6:=hk1.size;clear hk1 hwr n0 n1 n2 n3 n4 n5 n6;rcases hcase with ⟨s1,e1,rfl,i1⟩|⟨e1,rfl⟩
   ·have I1:=ag i1;have E1:=ag e1;clear i1 e1;go_wp2_with fail;refine (dh.out _ x.body (dep+1) s1 u A5.out (Kp.below HS.out HB.out jB.out) I1.out (λq hq=>nH (aX.out q hq) jB.out.size) (by omega)).mono ?_;rintro e u2 ⟨hk2,hcase⟩;have oD:=ag (jB.out.trans hk2);have p6:=(hk2.cell (p:=⟨wr.heap.size,6,none⟩) (by show wr.heap.size<_;omega) bg.out).trans m6;clear hk2 m5 m6;rcases hcase with ⟨s2,e2,rfl,i2⟩|⟨e2,rfl⟩
    ·have I2:=ag i2;have E2:=ag e2;clear i2 e2;go_wp2_with fail;refine (dh.out _ x.els (dep+1) s2 u2 A6.out (Kp.below HS.out HB.out oD.out) I2.out (λq hq=>nH (aX.out q hq) oD.out.size) (by omega)).mono ?_;rintro e u3 ⟨hk3,hcase⟩;have uU:=ag (oD.out.trans hk3);clear hk3 p6;rcases hcase with ⟨s3,e3,rfl,i3⟩|⟨e3,rfl⟩
     ·have HF:Hid (R=rest step d l dep (j+1) s3):=by
       have:=HN.out;rw [E1.out,Option.bind_some,E2.out,Option.bind_some,e3,Option.bind_some] at this;exact this
      have I3:=ag i3;clear i3 e3;go_wp2;go_roundw
      case rel=>exact ⟨j+1,s3,by omega,by go_num,HF,uU,I3⟩
      case measure=>simp [RowKit.intOf];omega
     have HF:R=none:=by
      have:=HN.out;rw [E1.out,Option.bind_some,E2.out,Option.bind_some,e3,Option.bind_none] at this;exact this
     go_wp2;exact ⟨rfl,uU.out,.inr ⟨HF,rfl⟩⟩
    have HF:R=none:=by
     have:=HN.out;rw [E1.out,Option.bind_some,e2,Option.bind_none] at this;exact this
    go_wp2;exact ⟨rfl,oD.out,.inr ⟨HF,rfl⟩⟩
   have HF:R=none:=by
    have:=HN.out;rw [e1,Option.bind_none] at this;exact this
   go_wp2;exact ⟨rfl,jB.out,.inr ⟨HF,rfl⟩⟩
  have HE:R=some sj:=HK.out.trans (rest_end (by omega));have kH:=ag HE;clear HE HK;go_wp2;go_end0;exact ⟨iA.out,.inl ⟨sj,kH.out,rfl,mi.out⟩⟩
theorem Ld {σ:Type} (cp:Value) (w0:World) (S:Nat->Prop) (hS:∀k,S k->w0.heap.size<=k) (Inv:σ->World->Prop) (hI:∀s w w',Below w.heap.size w w'->Inv s w->Inv s w')
  (step:σ->Sn->Nat->Option σ) (k:Int) (see:qg 66 (λx y=>#[x,y,cp]) w0 S Inv step k):∀(d:Nat),yP (.func (.func 66) #[] #[cp]) w0 S Inv step k d
 | 0=>λv l dep s w ⟨o,c,hv⟩ hb hs dR hd=>by
  subst hv;exact ZE cp w0 S Inv step k o c l dep s w hs
 | d+1=>λv l dep s w hAt hb hs dR hd=>ZF cp w0 S hS Inv hI step k see d (Ld cp w0 S hS Inv hI step k see d) v l dep s w hAt hb hs dR hd
end Go.Proofs.YtmfcojpjpgldhaaGreatDoor
namespace Go.Proofs.YtmfcojpjpgldhaaGreatDoor
open Go.RowKit aA
namespace aA
def fJ {σ:Type} (step:σ->Sn->Nat->Option σ) (d:Nat):List (gy d)->σ->Option σ
 | [],s=>some s
 | f :: r,s=>(jC step d f.body 0 s).bind λs1=>fJ step d r s1
theorem Ep {σ:Type} {step:σ->Sn->Nat->Option σ} {d:Nat} {l:List (gy d)} {j:Nat} {s:σ} (h:l.length<=j):fJ step d (l.drop j) s=some s:=by
 rw [List.drop_of_length_le h];rfl
theorem Eo {σ:Type} {step:σ->Sn->Nat->Option σ} {d:Nat} {l:List (gy d)} {j:Nat} {s:σ} {x:gy d} (hx:l[j]?=some x) :
  fJ step d (l.drop j) s=(jC step d x.body 0 s).bind λs1=>fJ step d (l.drop (j+1)) s1:=by
 have hl:j<l.length:=(fZ.1 hx).1;have he:l[j]=x:=(fZ.1 hx).2;rw [lX hl,he];rfl
def vX (v:Value):Prop:=∃o n c,v=.slice o n c
def zK (v0 v1 v3 v4 v5 v6 v7 v8 v9:Value):Prop:=vX v0/\vX v1/\vX v3/\vX v4/\vX v5/\vX v6/\vX v7/\vX v8/\vX v9
theorem Row.slice {α:Type} {size:Nat} {f:Nat->Nat->α->Prop} {v:Value} {l:List α} (h:Row size f v l):vX v:=let ⟨o,c,e⟩:=Row.len h;⟨o,l.length,c,e⟩
theorem da.ten {w:World} {d:Nat} {v0 v1 v2 v3 v4 v5 v6 v7 v8 v9:Value} {m:Mod d} (h:da w d v0 v1 v2 v3 v4 v5 v6 v7 v8 v9 m):zK v0 v1 v3 v4 v5 v6 v7 v8 v9 :=
 ⟨h.types.slice,h.imports.slice,h.tables.slice,h.aD.slice,h.globals.slice,h.exports.slice,Row.slice h.start,h.elems.slice,h.ax.slice⟩
end aA
end Go.Proofs.YtmfcojpjpgldhaaGreatDoor
namespace Go.Proofs.YtmfcojpjpgldhaaGreatDoor
open Go.RowKit aA Go.Proofs.Tryz
set_option linter.unusedVariables false
set_option maxHeartbeats 2000000
theorem UH {σ:Type} (cp:Value) (w0:World) (S:Nat->Prop) (hS:∀k,S k->w0.heap.size<=k) (Inv:σ->World->Prop) (hI:∀s w w',Below w.heap.size w w'->Inv s w->Inv s w')
  (step:σ->Sn->Nat->Option σ) (k:Int) (see:qg 66 (λx y=>#[x,y,cp]) w0 S Inv step k) (d:Nat) (hd:d<=4611686018427387904)
  (v0 v1 v2 v3 v4 v5 v6 v7 v8 v9:Value) (l:List (gy d)) (s:σ) (w:World) (hAt:Row 3 (jW w0 d) v2 l) (hT:zK v0 v1 v3 v4 v5 v6 v7 v8 v9) (hb:Below w0.heap.size w0 w) (hs:Inv s w) (dR:∀k,S k->k<w.heap.size) :
  Calls prog 26 #[.agg #[v0,v1,v2,v3,v4,v5,v6,v7,v8,v9],.func (.func 66) #[] #[cp]] w λe w' =>
   Kp S w w'/\((∃s',fJ step d l s=some s'/\e=.returned (.tuple #[])/\Inv s' w')\/(fJ step d l s=none/\e=.panicked (gave k))):=by
 have hlen:=hAt.1;obtain ⟨o,cap2,hv⟩:=Row.len hAt;have hx:=Row.some hAt;subst hv;obtain ⟨⟨o0,m0,c0,rfl⟩,⟨o1,m1,c1,rfl⟩,⟨o3,m3,c3,rfl⟩,⟨o4,m4,c4,rfl⟩,⟨o5,m5,c5,rfl⟩,⟨o6,m6,c6,rfl⟩,⟨o7,m7,c7,rfl⟩,⟨o8,m8,c8,rfl⟩,⟨o9,m9,c9,rfl⟩⟩:=hT;obtain ⟨R,hR⟩:∃R,R=fJ step d l s:=⟨_,rfl⟩;rw [<- hR];have HR:Hid (R=fJ step d (l.drop 0) s):=hR;have HX:=ag hx;clear hx hAt hR;generalize hn:l.length=n at *;have zM:=ag (Ld cp w0 S hS Inv hI step k see d);have HI:=ag hI;have HS:=ag hS;have aX:=ag dR;have HB:=ag hb;have Hs:=ag hs;clear see hI hS hb hs dR;go_enter func26,ntmps26;go_wp2_with fail;go_loopw [9] (λi wr=>∃(j:Nat) (sj:σ),j<=n/\i=.int .i64 j/\Hid (R=fJ step d (l.drop j) sj)/\Hid (Kp S w wr)/\Hid (Inv sj wr)) (λi _=>n-(RowKit.intOf i).toNat)
 case atStart=>exact ⟨0,s,by omega,rfl,HR,(Kp.refl S w).alloc _,HI.out _ _ _ ((Below.refl _ w).alloc (aI _) _) Hs.out⟩
 case round =>
  obtain ⟨j,sj,hj,rfl,HK,iA,mi⟩:=hrel;by_cases hgo:j<n
  ·obtain ⟨b,off,mf,hv2,hx⟩:=HX.out (by omega);injection hv2 with ho h2 h3;subst ho;obtain ⟨x,hxk⟩:∃x,l[j]?=some x:=⟨_,aY (by omega)⟩;have hbr:=Kp.below HS.out HB.out iA.out;have hx':=(hx j x hxk).on hbr;have c0:=hx'.type;obtain ⟨lv,c1,a1⟩:=hx'.locals;obtain ⟨ow,c2',a2⟩:=(hx j x hxk).body;have c2:=aj hbr c2';have HN:=ag (HK.out.trans (Eo hxk));obtain ⟨lo,lc,rfl⟩:=Row.len a1;obtain ⟨bo,bc,rfl⟩:=At.len d ow x.body a2;generalize hnb:size d x.body=nb at *;generalize hnl:x.locals.length=nl at *;have A2:=ag a2;clear hx' h2 h3 HX a1 a2 hxk hnb hnl hbr hx c2' HK;go_upto_region 4 with fail;obtain ⟨wa,aG⟩:∃wa,wa=wr.alloc (Obj.cells #[.int .i64 x.type,.slice lo nl lc,.slice bo nb bc] 45):=⟨_,rfl⟩;rw [<- aG];have hsz:wa.heap.size=wr.heap.size+1:=by rw [aG];exact size_alloc _ _
   have n2:wa.cell? ⟨wr.heap.size,2,none⟩=some (.slice bo nb bc):=by rw [aG];exact bQ _ _ _ _ _ rfl
   have hka:Hid (Kp S w wa):=by rw [aG];exact iA.out.alloc _
   have hra:Below wr.heap.size wr wa:=by rw [aG];exact (Below.refl _ wr).alloc (aI _) _
   have mh:=ag hra;clear aG hra c0 c1 c2;go_wp2_with fail;refine (zM.out _ x.body 0 sj wa A2.out (Kp.below HS.out HB.out hka.out) (HI.out _ _ _ mh.out mi.out) (λq hq=>nH (aX.out q hq) hka.out.size) (by omega)).mono ?_;rintro e u ⟨hk1,hcase⟩;have jB:=ag (hka.out.trans hk1);clear hk1;rcases hcase with ⟨s1,e1,rfl,i1⟩|⟨e1,rfl⟩
   ·have HF:Hid (R=fJ step d (l.drop (j+1)) s1):=by
     have:=HN.out;rw [e1,Option.bind_some] at this;exact this
    have I1:=ag i1;clear i1 e1;go_wp2;go_roundw
    case rel=>exact ⟨j+1,s1,by omega,by go_num,HF,jB,I1⟩
    case measure=>simp [RowKit.intOf];omega
   have HF:R=none:=by
    have:=HN.out;rw [e1,Option.bind_none] at this;exact this
   go_wp2;exact ⟨rfl,jB.out,.inr ⟨HF,rfl⟩⟩
  have HE:R=some sj:=HK.out.trans (Ep (by omega));have kH:=ag HE;clear HE HK;go_wp2;go_end0;exact ⟨iA.out,.inl ⟨sj,kH.out,rfl,mi.out⟩⟩
theorem VL {σ:Type} (w0:World) (S:Nat->Prop) (Inv:σ->World->Prop) (step:σ->Sn->Nat->Option σ) (k:Int) (o:Option Addr) (c:Nat) (l:IL 0) (dep:Nat) (s:σ) (w:World) (hs:Inv s w) :
  Calls prog 67 #[.slice o 0 c,.int .i64 dep,.func (.func 32) #[] #[]] w λe w' =>
   Kp S w w'/\((∃s',jC step 0 l dep s=some s'/\e=.returned (.tuple #[])/\Inv s' w')\/(jC step 0 l dep s=none/\e=.panicked (gave k))):=by
 have Hs:=ag hs;clear hs;go_enter func67,ntmps67;go_wp2_with fail;go_loopw [10] (λi wr=>i=.int .i64 0/\wr=w) (λi _=>0)
 case atStart=>exact ⟨rfl,rfl⟩
 case round =>
  obtain ⟨rfl,rfl⟩:=hrel;go_wp2;go_end0;exact ⟨Kp.refl S _,.inl ⟨s,rfl,rfl,Hs.out⟩⟩
theorem VM {σ:Type} (w0:World) (S:Nat->Prop) (hS:∀k,S k->w0.heap.size<=k) (Inv:σ->World->Prop) (hI:∀s w w',Below w.heap.size w w'->Inv s w->Inv s w')
  (step:σ->Sn->Nat->Option σ) (k:Int) (see:qg 32 (λx y=>#[x,y]) w0 S Inv step k) (d:Nat) (IH:yP (.func (.func 32) #[] #[]) w0 S Inv step k d)
  (v:Value) (l:List (Ins (IL d))) (dep:Nat) (s:σ) (w:World) (hAt:Row 7 (fA w0 (At w0 d)) v l) (hb:Below w0.heap.size w0 w) (hs:Inv s w) (dR:∀k,S k->k<w.heap.size) (hd:dep+(d+1)<=4611686018427387904) :
  Calls prog 67 #[v,.int .i64 dep,.func (.func 32) #[] #[]] w λe w' =>
   Kp S w w'/\((∃s',rest step d l dep 0 s=some s'/\e=.returned (.tuple #[])/\Inv s' w')\/(rest step d l dep 0 s=none/\e=.panicked (gave k))):=by
 have hlen:=hAt.1;obtain ⟨o,cap2,hv⟩:=Row.len hAt;have hx:=Row.some hAt;subst hv;obtain ⟨R,hR⟩:∃R,R=rest step d l dep 0 s:=⟨_,rfl⟩;rw [<- hR];have HR:=ag hR;have HX:=ag hx;clear hx hAt hR;generalize hn:l.length=n at *;have zS:=ag see;have dh:=ag IH;have HI:=ag hI;have HS:=ag hS;have aX:=ag dR;have HB:=ag hb;have Hs:=ag hs;clear see IH hI hS hb hs dR;go_enter func67,ntmps67;go_wp2_with fail;go_loopw [10] (λi wr=>∃(j:Nat) (sj:σ),j<=n/\i=.int .i64 j/\Hid (R=rest step d l dep j sj)/\Hid (Kp S w wr)/\Hid (Inv sj wr)) (λi _=>n-(RowKit.intOf i).toNat)
 case atStart=>exact ⟨0,s,by omega,rfl,HR,Kp.refl S w,Hs⟩
 case round =>
  obtain ⟨j,sj,hj,rfl,HK,iA,mi⟩:=hrel;by_cases hgo:j<n
  ·obtain ⟨b,off,mf,hv2,hx⟩:=HX.out (by omega);injection hv2 with ho h2 h3;subst ho;obtain ⟨x,hxk⟩:∃x,l[j]?=some x:=⟨_,aY (by omega)⟩;have hbr:=Kp.below HS.out HB.out iA.out;have hx':=(hx j x hxk).on hbr (At.on hbr d);have c0:=hx'.op;have c1:=hx'.a;have c2:=hx'.b;have c3:=hx'.n;obtain ⟨lv,c4,a4⟩:=hx'.labels;obtain ⟨bv,c5,_⟩:=hx'.body;obtain ⟨ev,c6,_⟩:=hx'.els;obtain ⟨ow,uQ,a5⟩:=(hx j x hxk).body;obtain ⟨uR,uS,a6⟩:=(hx j x hxk).els;obtain rfl:ow=bv:=Option.some.inj ((aj hbr uQ).symm.trans c5);obtain rfl:uR=ev:=Option.some.inj ((aj hbr uS).symm.trans c6);have HN:=ag (HK.out.trans (EF hxk));obtain ⟨lo,lc,rfl⟩:=Row.len a4;obtain ⟨bo,bc,rfl⟩:=At.len d ow x.body a5;obtain ⟨eo,ec,rfl⟩:=At.len d uR x.els a6;have uT:=zS.out sj (sn x) (.slice lo x.labels.length lc) (.slice bo (size d x.body) bc) (.slice eo (size d x.els) ec) dep;generalize hnb:size d x.body=nb at *;generalize hne:size d x.els=ne at *;generalize hnl:x.labels.length=nl at *;have A4:=ag a4;have A5:=ag a5;have A6:=ag a6;have vS:=ag hnb;have bH:=ag hne;have bV:=ag hnl;have rU:=ag hbr;have rL:=ag uT;clear hx' h2 h3 HX a4 a5 a6 hxk hnb hne hnl hbr hx uQ uS uT HK;go_upto_region 3 with fail;obtain ⟨wa,aG⟩:∃wa,wa=wr.alloc (Obj.cells #[.int .i64 x.op,.int .i64 x.a,.int .i64 x.b,.int .i64 x.n,.slice lo nl lc,.slice bo nb bc,.slice eo ne ec] 49):=⟨_,rfl⟩;rw [<- aG];have hsz:wa.heap.size=wr.heap.size+1:=by rw [aG];exact size_alloc _ _
   have n0:wa.cell? ⟨wr.heap.size,0,none⟩=some (.int .i64 x.op):=by rw [aG];exact bQ _ _ _ _ _ rfl
   have n1:wa.cell? ⟨wr.heap.size,1,none⟩=some (.int .i64 x.a):=by rw [aG];exact bQ _ _ _ _ _ rfl
   have n2:wa.cell? ⟨wr.heap.size,2,none⟩=some (.int .i64 x.b):=by rw [aG];exact bQ _ _ _ _ _ rfl
   have n3:wa.cell? ⟨wr.heap.size,3,none⟩=some (.int .i64 x.n):=by rw [aG];exact bQ _ _ _ _ _ rfl
   have n4:wa.cell? ⟨wr.heap.size,4,none⟩=some (.slice lo nl lc):=by rw [aG];exact bQ _ _ _ _ _ rfl
   have n5:wa.cell? ⟨wr.heap.size,5,none⟩=some (.slice bo nb bc):=by rw [aG];exact bQ _ _ _ _ _ rfl
   have n6:wa.cell? ⟨wr.heap.size,6,none⟩=some (.slice eo ne ec):=by rw [aG];exact bQ _ _ _ _ _ rfl
   have hka:Hid (Kp S w wa):=by rw [aG];exact iA.out.alloc _
   have hra:Below wr.heap.size wr wa:=by rw [aG];exact (Below.refl _ wr).alloc (aI _) _
   have mh:=ag hra;clear aG hra c0 c1 c2 c3 c4 c5 c6;go_wp2_with fail;refine (rL.out wa (Kp.below HS.out HB.out hka.out) (HI.out _ _ _ mh.out mi.out) (A4.out.on mh.out) ⟨bo,bc,by rw [<- vS.out];rfl⟩ ⟨eo,ec,by rw [<- bH.out];rfl⟩ (by omega)).mono ?_;rintro e u ⟨hk1,hcase⟩;have aO:=ag hk1;have hwr:¬ S wr.heap.size:=λhh=>by have h1:=aX.out _ hh;have h2:=iA.out.size;omega
   have bg:=ag hwr;have jB:=ag (hka.out.trans hk1);have m5:=(hk1.cell (p:=⟨wr.heap.size,5,none⟩) (by show wr.heap.size<_;omega) hwr).trans n5;have m6:=(hk1.cell (p:=⟨wr.heap.size,6,none⟩) (by show wr.heap.size<_;omega) hwr).trans n6;have G6:=hk1.size;clear hk1 hwr n0 n1 n2 n3 n4 n5 n6;rcases hcase with ⟨s1,e1,rfl,i1⟩|⟨e1,rfl⟩
   ·have I1:=ag i1;have E1:=ag e1;clear i1 e1;go_wp2_with fail;refine (dh.out _ x.body (dep+1) s1 u A5.out (Kp.below HS.out HB.out jB.out) I1.out (λq hq=>nH (aX.out q hq) jB.out.size) (by omega)).mono ?_;rintro e u2 ⟨hk2,hcase⟩;have oD:=ag (jB.out.trans hk2);have p6:=(hk2.cell (p:=⟨wr.heap.size,6,none⟩) (by show wr.heap.size<_;omega) bg.out).trans m6;clear hk2 m5 m6;rcases hcase with ⟨s2,e2,rfl,i2⟩|⟨e2,rfl⟩
    ·have I2:=ag i2;have E2:=ag e2;clear i2 e2;go_wp2_with fail;refine (dh.out _ x.els (dep+1) s2 u2 A6.out (Kp.below HS.out HB.out oD.out) I2.out (λq hq=>nH (aX.out q hq) oD.out.size) (by omega)).mono ?_;rintro e u3 ⟨hk3,hcase⟩;have uU:=ag (oD.out.trans hk3);clear hk3 p6;rcases hcase with ⟨s3,e3,rfl,i3⟩|⟨e3,rfl⟩
     ·have HF:Hid (R=rest step d l dep (j+1) s3):=by
       have:=HN.out;rw [E1.out,Option.bind_some,E2.out,Option.bind_some,e3,Option.bind_some] at this;exact this
      have I3:=ag i3;clear i3 e3;go_wp2;go_roundw
      case rel=>exact ⟨j+1,s3,by omega,by go_num,HF,uU,I3⟩
      case measure=>simp [RowKit.intOf];omega
     have HF:R=none:=by
      have:=HN.out;rw [E1.out,Option.bind_some,E2.out,Option.bind_some,e3,Option.bind_none] at this;exact this
     go_wp2;exact ⟨rfl,uU.out,.inr ⟨HF,rfl⟩⟩
    have HF:R=none:=by
     have:=HN.out;rw [E1.out,Option.bind_some,e2,Option.bind_none] at this;exact this
    go_wp2;exact ⟨rfl,oD.out,.inr ⟨HF,rfl⟩⟩
   have HF:R=none:=by
    have:=HN.out;rw [e1,Option.bind_none] at this;exact this
   go_wp2;exact ⟨rfl,jB.out,.inr ⟨HF,rfl⟩⟩
  have HE:R=some sj:=HK.out.trans (rest_end (by omega));have kH:=ag HE;clear HE HK;go_wp2;go_end0;exact ⟨iA.out,.inl ⟨sj,kH.out,rfl,mi.out⟩⟩
theorem LO {σ:Type} (w0:World) (S:Nat->Prop) (hS:∀k,S k->w0.heap.size<=k) (Inv:σ->World->Prop) (hI:∀s w w',Below w.heap.size w w'->Inv s w->Inv s w')
  (step:σ->Sn->Nat->Option σ) (k:Int) (see:qg 32 (λx y=>#[x,y]) w0 S Inv step k):∀(d:Nat),yP (.func (.func 32) #[] #[]) w0 S Inv step k d
 | 0=>λv l dep s w ⟨o,c,hv⟩ hb hs dR hd=>by
  subst hv;exact VL w0 S Inv step k o c l dep s w hs
 | d+1=>λv l dep s w hAt hb hs dR hd=>VM w0 S hS Inv hI step k see d (LO w0 S hS Inv hI step k see d) v l dep s w hAt hb hs dR hd
theorem YK {σ:Type} (w0:World) (S:Nat->Prop) (hS:∀k,S k->w0.heap.size<=k) (Inv:σ->World->Prop) (hI:∀s w w',Below w.heap.size w w'->Inv s w->Inv s w')
  (step:σ->Sn->Nat->Option σ) (k:Int) (see:qg 32 (λx y=>#[x,y]) w0 S Inv step k) (d:Nat) (hd:d<=4611686018427387904)
  (v0 v1 v2 v3 v4 v5 v6 v7 v8 v9:Value) (l:List (gy d)) (s:σ) (w:World) (hAt:Row 3 (jW w0 d) v2 l) (hT:zK v0 v1 v3 v4 v5 v6 v7 v8 v9) (hb:Below w0.heap.size w0 w) (hs:Inv s w) (dR:∀k,S k->k<w.heap.size) :
  Calls prog 26 #[.agg #[v0,v1,v2,v3,v4,v5,v6,v7,v8,v9],.func (.func 32) #[] #[]] w λe w' =>
   Kp S w w'/\((∃s',fJ step d l s=some s'/\e=.returned (.tuple #[])/\Inv s' w')\/(fJ step d l s=none/\e=.panicked (gave k))):=by
 have hlen:=hAt.1;obtain ⟨o,cap2,hv⟩:=Row.len hAt;have hx:=Row.some hAt;subst hv;obtain ⟨⟨o0,m0,c0,rfl⟩,⟨o1,m1,c1,rfl⟩,⟨o3,m3,c3,rfl⟩,⟨o4,m4,c4,rfl⟩,⟨o5,m5,c5,rfl⟩,⟨o6,m6,c6,rfl⟩,⟨o7,m7,c7,rfl⟩,⟨o8,m8,c8,rfl⟩,⟨o9,m9,c9,rfl⟩⟩:=hT;obtain ⟨R,hR⟩:∃R,R=fJ step d l s:=⟨_,rfl⟩;rw [<- hR];have HR:Hid (R=fJ step d (l.drop 0) s):=hR;have HX:=ag hx;clear hx hAt hR;generalize hn:l.length=n at *;have zM:=ag (LO w0 S hS Inv hI step k see d);have HI:=ag hI;have HS:=ag hS;have aX:=ag dR;have HB:=ag hb;have Hs:=ag hs;clear see hI hS hb hs dR;go_enter func26,ntmps26;go_wp2_with fail;go_loopw [9] (λi wr=>∃(j:Nat) (sj:σ),j<=n/\i=.int .i64 j/\Hid (R=fJ step d (l.drop j) sj)/\Hid (Kp S w wr)/\Hid (Inv sj wr)) (λi _=>n-(RowKit.intOf i).toNat)
 case atStart=>exact ⟨0,s,by omega,rfl,HR,(Kp.refl S w).alloc _,HI.out _ _ _ ((Below.refl _ w).alloc (aI _) _) Hs.out⟩
 case round =>
  obtain ⟨j,sj,hj,rfl,HK,iA,mi⟩:=hrel;by_cases hgo:j<n
  ·obtain ⟨b,off,mf,hv2,hx⟩:=HX.out (by omega);injection hv2 with ho h2 h3;subst ho;obtain ⟨x,hxk⟩:∃x,l[j]?=some x:=⟨_,aY (by omega)⟩;have hbr:=Kp.below HS.out HB.out iA.out;have hx':=(hx j x hxk).on hbr;have c0:=hx'.type;obtain ⟨lv,c1,a1⟩:=hx'.locals;obtain ⟨ow,c2',a2⟩:=(hx j x hxk).body;have c2:=aj hbr c2';have HN:=ag (HK.out.trans (Eo hxk));obtain ⟨lo,lc,rfl⟩:=Row.len a1;obtain ⟨bo,bc,rfl⟩:=At.len d ow x.body a2;generalize hnb:size d x.body=nb at *;generalize hnl:x.locals.length=nl at *;have A2:=ag a2;clear hx' h2 h3 HX a1 a2 hxk hnb hnl hbr hx c2' HK;go_upto_region 4 with fail;obtain ⟨wa,aG⟩:∃wa,wa=wr.alloc (Obj.cells #[.int .i64 x.type,.slice lo nl lc,.slice bo nb bc] 45):=⟨_,rfl⟩;rw [<- aG];have hsz:wa.heap.size=wr.heap.size+1:=by rw [aG];exact size_alloc _ _
   have n2:wa.cell? ⟨wr.heap.size,2,none⟩=some (.slice bo nb bc):=by rw [aG];exact bQ _ _ _ _ _ rfl
   have hka:Hid (Kp S w wa):=by rw [aG];exact iA.out.alloc _
   have hra:Below wr.heap.size wr wa:=by rw [aG];exact (Below.refl _ wr).alloc (aI _) _
   have mh:=ag hra;clear aG hra c0 c1 c2;go_wp2_with fail;refine (zM.out _ x.body 0 sj wa A2.out (Kp.below HS.out HB.out hka.out) (HI.out _ _ _ mh.out mi.out) (λq hq=>nH (aX.out q hq) hka.out.size) (by omega)).mono ?_;rintro e u ⟨hk1,hcase⟩;have jB:=ag (hka.out.trans hk1);clear hk1;rcases hcase with ⟨s1,e1,rfl,i1⟩|⟨e1,rfl⟩
   ·have HF:Hid (R=fJ step d (l.drop (j+1)) s1):=by
     have:=HN.out;rw [e1,Option.bind_some] at this;exact this
    have I1:=ag i1;clear i1 e1;go_wp2;go_roundw
    case rel=>exact ⟨j+1,s1,by omega,by go_num,HF,jB,I1⟩
    case measure=>simp [RowKit.intOf];omega
   have HF:R=none:=by
    have:=HN.out;rw [e1,Option.bind_none] at this;exact this
   go_wp2;exact ⟨rfl,jB.out,.inr ⟨HF,rfl⟩⟩
  have HE:R=some sj:=HK.out.trans (Ep (by omega));have kH:=ag HE;clear HE HK;go_wp2;go_end0;exact ⟨iA.out,.inl ⟨sj,kH.out,rfl,mi.out⟩⟩
namespace aA
def rH (x:Sn):Bool:=okF (form x.op) x.op x.a x.b x.n x.labels x.nb x.ne
def qf (op:Int):Bool:=op==65 || op==66 || op==35
end aA
def vI (_:Unit) (x:Sn) (_:Nat):Option Unit:=if rH x=true then some () else none
theorem UA {I:World->Prop} (C:dB I) (w0:World):qg 32 (λx y=>#[x,y]) w0 (λ_=>False) (λ(_:Unit) w=>I w) vI 30:=by
 intro s x lv bv ev dep w hb hI hl hbv hev hd;obtain ⟨lo,lc,rfl⟩:=Row.len hl;obtain ⟨bo,bc,rfl⟩:=hbv;obtain ⟨eo,ec,rfl⟩:=hev;generalize hS:vI s x dep=R;unfold vI rH at hS;have HS:=ag hS;have HC:=λ(w':World) (h:Below w.heap.size w w')=>Ef C x.op x.a x.b x.n x.labels lo bo eo x.nb x.ne lc bc ec w' (C.keep h hI) (hl.on h);have uI:=ag HC;have ou:=ag hI;clear HC hS hI hl hb;generalize okF (form x.op) x.op x.a x.b x.n x.labels x.nb x.ne=r at *;generalize x.labels.length=nl at *;go_enter func32,ntmps32;go_wp2_with fail;have hw:=(Below.refl w.heap.size w).alloc (aI _) (Obj.cells #[.int .i64 x.op,.int .i64 x.a,.int .i64 x.b,.int .i64 x.n,.slice lo nl lc,.slice bo x.nb bc,.slice eo x.ne ec] 49);refine (uI.out _ hw).mono ?_;rintro e u ⟨hN,hb2⟩;have HB2:=ag (db hw hb2);clear hb2 hw uI;rcases hN with ⟨rfl,rfl⟩|⟨rfl,rfl⟩
 ·have HR:Hid (R=some ()):=by have:=HS.out;rw [if_pos rfl] at this;exact this.symm
  clear HS;go_wp2;go_end0;exact ⟨Kp.of_below HB2.out,.inl ⟨(),HR.out,rfl,C.keep HB2.out ou.out⟩⟩
 have HR:Hid (R=none):=by have:=HS.out;rw [if_neg (by decide)] at this;exact this.symm
 clear HS;go_wp2;exact ⟨rfl,Kp.of_below HB2.out,.inr ⟨HR.out,rfl⟩⟩
theorem UB {I:World->Prop} (C:dB I) (op a b n:Int) (ls:List Int) (lo bo eo:Option Addr) (nb ne lc bc ec:Nat) (w:World) (d1:(op==65)=true) (hI:I w) (hl:Ints w (.slice lo ls.length lc) ls) :
  Calls prog 72 #[.agg #[.int .i64 op,.int .i64 a,.int .i64 b,.int .i64 n,.slice lo ls.length lc,.slice bo nb bc,.slice eo ne ec]] w λe w'=>iN (okF (form op) op a b n ls nb ne) 30 e/\Below w.heap.size w w':=by
 have uI:=ag λ(w':World) (h:Below w.heap.size w w')=>Ef C op a b n ls lo bo eo nb ne lc bc ec w' (C.keep h hI) (hl.on h);clear hl hI;generalize okF (form op) op a b n ls nb ne=r at *;generalize ls.length=nl at *;go_enter func72,ntmps72;go_wp2_with fail;refine (gJ true _ _).mono ?_;rintro e u2 ⟨hN,rfl⟩;obtain rfl:=hN.yes;go_wp2_with fail;have hw:=(Below.refl w.heap.size w).alloc (aI _) (Obj.cells #[.int .i64 op,.int .i64 a,.int .i64 b,.int .i64 n,.slice lo nl lc,.slice bo nb bc,.slice eo ne ec] 49);refine (uI.out _ hw).mono ?_;rintro e u ⟨hN,hb2⟩;have HB2:=ag (db hw hb2);clear hb2 hw uI;rcases hN with ⟨rfl,rfl⟩|⟨rfl,rfl⟩
 ·go_wp2;go_end0;exact ⟨.inl ⟨rfl,rfl⟩,HB2.out⟩
 go_wp2;exact ⟨rfl,.inr ⟨rfl,rfl⟩,HB2.out⟩
theorem UC {I:World->Prop} (C:dB I) (op a b n:Int) (ls:List Int) (lo bo eo:Option Addr) (nb ne lc bc ec:Nat) (w:World) (d1:(op==65)=false) (d2:(op==66)=true) (hI:I w) (hl:Ints w (.slice lo ls.length lc) ls) :
  Calls prog 72 #[.agg #[.int .i64 op,.int .i64 a,.int .i64 b,.int .i64 n,.slice lo ls.length lc,.slice bo nb bc,.slice eo ne ec]] w λe w'=>iN (okF (form op) op a b n ls nb ne) 30 e/\Below w.heap.size w w':=by
 have uI:=ag λ(w':World) (h:Below w.heap.size w w')=>Ef C op a b n ls lo bo eo nb ne lc bc ec w' (C.keep h hI) (hl.on h);clear hl hI;generalize okF (form op) op a b n ls nb ne=r at *;generalize ls.length=nl at *;go_enter func72,ntmps72;go_wp2_with fail;refine (gJ true _ _).mono ?_;rintro e u2 ⟨hN,rfl⟩;obtain rfl:=hN.yes;go_wp2_with fail;have hw:=(Below.refl w.heap.size w).alloc (aI _) (Obj.cells #[.int .i64 op,.int .i64 a,.int .i64 b,.int .i64 n,.slice lo nl lc,.slice bo nb bc,.slice eo ne ec] 49);refine (uI.out _ hw).mono ?_;rintro e u ⟨hN,hb2⟩;have HB2:=ag (db hw hb2);clear hb2 hw uI;rcases hN with ⟨rfl,rfl⟩|⟨rfl,rfl⟩
 ·go_wp2;go_end0;exact ⟨.inl ⟨rfl,rfl⟩,HB2.out⟩
 go_wp2;exact ⟨rfl,.inr ⟨rfl,rfl⟩,HB2.out⟩
theorem UD {I:World->Prop} (C:dB I) (op a b n:Int) (ls:List Int) (lo bo eo:Option Addr) (nb ne lc bc ec:Nat) (w:World) (d1:(op==65)=false) (d2:(op==66)=false) (d3:(op==35)=true) (hI:I w) (hl:Ints w (.slice lo ls.length lc) ls) :
  Calls prog 72 #[.agg #[.int .i64 op,.int .i64 a,.int .i64 b,.int .i64 n,.slice lo ls.length lc,.slice bo nb bc,.slice eo ne ec]] w λe w'=>iN (okF (form op) op a b n ls nb ne) 30 e/\Below w.heap.size w w':=by
 have uI:=ag λ(w':World) (h:Below w.heap.size w w')=>Ef C op a b n ls lo bo eo nb ne lc bc ec w' (C.keep h hI) (hl.on h);clear hl hI;generalize okF (form op) op a b n ls nb ne=r at *;generalize ls.length=nl at *;go_enter func72,ntmps72;go_wp2_with fail;refine (gJ true _ _).mono ?_;rintro e u2 ⟨hN,rfl⟩;obtain rfl:=hN.yes;go_wp2_with fail;have hw:=(Below.refl w.heap.size w).alloc (aI _) (Obj.cells #[.int .i64 op,.int .i64 a,.int .i64 b,.int .i64 n,.slice lo nl lc,.slice bo nb bc,.slice eo ne ec] 49);refine (uI.out _ hw).mono ?_;rintro e u ⟨hN,hb2⟩;have HB2:=ag (db hw hb2);clear hb2 hw uI;rcases hN with ⟨rfl,rfl⟩|⟨rfl,rfl⟩
 ·go_wp2;go_end0;exact ⟨.inl ⟨rfl,rfl⟩,HB2.out⟩
 go_wp2;exact ⟨rfl,.inr ⟨rfl,rfl⟩,HB2.out⟩
theorem UE {I:World->Prop} (C:dB I) (op a b n:Int) (ls:List Int) (lo bo eo:Option Addr) (nb ne lc bc ec:Nat) (w:World) (d1:(op==65)=false) (d2:(op==66)=false) (d3:(op==35)=false) (hI:I w) (hl:Ints w (.slice lo ls.length lc) ls) :
  Calls prog 72 #[.agg #[.int .i64 op,.int .i64 a,.int .i64 b,.int .i64 n,.slice lo ls.length lc,.slice bo nb bc,.slice eo ne ec]] w λe w'=>iN (false) 30 e/\Below w.heap.size w w':=by
 clear hl hI;generalize ls.length=nl at *;go_enter func72,ntmps72;go_wp2_with fail;refine (gJ false _ _).mono ?_;rintro e u2 ⟨hN,rfl⟩;obtain rfl:=hN.no;go_wp2;exact ⟨rfl,.inr ⟨rfl,rfl⟩,(Below.refl w.heap.size w).alloc (aI _) _⟩
theorem Gm {I:World->Prop} (C:dB I) (op a b n:Int) (ls:List Int) (lo bo eo:Option Addr) (nb ne lc bc ec:Nat) (w:World) (hI:I w) (hl:Ints w (.slice lo ls.length lc) ls) :
  Calls prog 72 #[.agg #[.int .i64 op,.int .i64 a,.int .i64 b,.int .i64 n,.slice lo ls.length lc,.slice bo nb bc,.slice eo ne ec]] w λe w'=>iN (qf op&&okF (form op) op a b n ls nb ne) 30 e/\Below w.heap.size w w':=by
 unfold qf;cases h1:op==65
 ·cases h2:op==66
  ·cases h3:op==35
   ·exact UE C op a b n ls lo bo eo nb ne lc bc ec w h1 h2 h3 hI hl
   exact UD C op a b n ls lo bo eo nb ne lc bc ec w h1 h2 h3 hI hl
  exact UC C op a b n ls lo bo eo nb ne lc bc ec w h1 h2 hI hl
 exact UB C op a b n ls lo bo eo nb ne lc bc ec w h1 hI hl
theorem UF (cb:Nat):∀(c:Nat) (w w':World),Below w.heap.size w w'->(c<=65536/\w.cell? ⟨cb,0,none⟩=some (.int .i64 c)/\w.frozen? ⟨cb,0,none⟩=false) ->
  (c<=65536/\w'.cell? ⟨cb,0,none⟩=some (.int .i64 c)/\w'.frozen? ⟨cb,0,none⟩=false) :=
 λc w w' hb ⟨h1,h2,h3⟩=>⟨h1,aj hb h2,(hb.frozen (p:=⟨cb,0,none⟩) (World.block_lt_of_cell? _ _ h2)).trans h3⟩
namespace aA
end aA
theorem UG (d:Nat) (hd:d<=4611686018427387904) (v0 v1 v2 v3 v4 v5 v6 v7 v8 v9:Value) (l:List (gy d)) (w:World) (hAt:Row 3 (jW w d) v2 l) (hT:zK v0 v1 v3 v4 v5 v6 v7 v8 v9) :
  Calls prog 25 #[.agg #[v0,v1,v2,v3,v4,v5,v6,v7,v8,v9]] w λe w' =>
   Below w.heap.size w w'/\((∃c:Nat,fJ kG d l 0=some c/\c<=65536/\e=.returned (.int .i64 c))\/(fJ kG d l 0=none/\e=.panicked (gave 3))):=by
 have KE:=ag hAt;have HT:=ag hT;obtain ⟨o2,n2,c2,rfl⟩:=Row.slice hAt;obtain ⟨⟨o0,m0,c0,rfl⟩,⟨o1,m1,c1,rfl⟩,⟨o3,m3,c3,rfl⟩,⟨o4,m4,c4,rfl⟩,⟨o5,m5,c5,rfl⟩,⟨o6,m6,c6,rfl⟩,⟨o7,m7,c7,rfl⟩,⟨o8,m8,c8,rfl⟩,⟨o9,m9,c9,rfl⟩⟩:=hT;obtain ⟨R,hR⟩:∃R,R=fJ kG d l 0:=⟨_,rfl⟩;have HR:=ag hR;rw [<- hR];clear hAt hR;have AL:∀(fn:Fn) (first cap:Array Value) (w:World),(Instr.makeFunc fn first cap).run prog w=.ok (.func fn first cap) w:=λ_ _ _ _=>rfl;go_enter func25,ntmps25;go_wp2_with fail;have hbel:∀(o:Obj),Below w.heap.size w ((w.alloc o).alloc (.cells #[.int .i64 0] 3)):=λo=>((Below.refl _ w).alloc (aI _) o).alloc (by simp) _
 refine (UH (.pointer (some ⟨w.heap.size+1,0,none⟩)) w (λk=>k=w.heap.size+1) (by rintro k rfl;omega) _ (UF (w.heap.size+1)) kG 3 (UI w (w.heap.size+1)) d hd _ _ _ _ _ _ _ _ _ _ l 0 _ KE.out HT.out (hbel _)
  ⟨by omega,by rw [World.cell?_alloc_at _ _ _ _ (by simp)];rfl,by rw [World.frozen?_alloc_at _ _ _ _ (by simp)]⟩ (by rintro k rfl;simp)).mono ?_
 rintro e u ⟨hk,hcase⟩;have HB:=ag (Kp.below (S:=λk=>k=w.heap.size+1) (w0:=w) (by rintro k rfl;omega) (hbel _) hk);rw [<- HR.out] at hcase;clear hk hbel KE HT;rcases hcase with ⟨c,hc,rfl,hle,hcell,hfz⟩|⟨hc,rfl⟩
 ·have HC:=ag hc;clear hc HR;go_wp2;go_ret;exact ⟨HB.out,.inl ⟨c,HC.out,hle,rfl⟩⟩
 have HC:=ag hc;clear hc HR;go_wp2;exact ⟨rfl,HB.out,.inr ⟨HC.out,rfl⟩⟩
end Go.Proofs.YtmfcojpjpgldhaaGreatDoor
