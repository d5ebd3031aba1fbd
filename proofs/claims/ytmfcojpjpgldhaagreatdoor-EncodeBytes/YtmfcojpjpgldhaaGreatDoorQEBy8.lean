/- Texts that the claim needs. -/
import Derived.Test.YtmfcojpjpgldhaaGreatDoorQEBy1
import Derived.Test.YtmfcojpjpgldhaaGreatDoorQEBy0
import Derived.Deep.CutRange
import Derived.Deep.Cut
import Derived.Deep.RegionWith
import Derived.Test.YtmfcojpjpgldhaaGreatDoorQEBy2
import Derived.Deep.RegionLaw
namespace Go.Proofs.YtmfcojpjpgldhaaGreatDoor
open Go.RowKit aA Go.Proofs.Tryz
set_option linter.unusedVariables false
set_option maxRecDepth 100000
set_option maxHeartbeats 4000000
namespace aA
theorem ZB {α:Type} [DecidableEq α] {a b:List α} {j:Nat} {x y:α} {R:Bool} (hx:a[j]?=some x) (hy:b[j]?=some y) (h:R=decide (a.drop j=b.drop j)):R=(decide (x=y)&&decide (a.drop (j+1)=b.drop (j+1))):=by
 have hl:j<a.length:=(fZ.1 hx).1;have he:a[j]=x:=(fZ.1 hx).2;have hl2:j<b.length:=(fZ.1 hy).1;have he2:b[j]=y:=(fZ.1 hy).2;rw [h,lX hl,he,lX hl2,he2,<- Bool.decide_and];simp only [List.cons.injEq]
end aA
theorem Aq (va vb:Value) (a b:List Int) (w:World) (hA:Ints w va a) (hB:Ints w vb b) :
  Calls prog 20 #[va,vb] w λe w'=>e=.returned (.bool (decide (a=b)))/\∃n,w'=w.drewN n:=by
 have la:=hA.1;have lb:=hB.1;obtain ⟨oa,ca,rfl⟩:=Row.len hA;obtain ⟨ob,cb,rfl⟩:=Row.len hB;have HA:=aa hA;have HB:=aa hB;obtain ⟨R,hR⟩:∃R,R=decide (a=b):=⟨_,rfl⟩;rw [<- hR];have HR:Hid (R=decide (a.drop 0=b.drop 0)):=hR;have HL:Hid (a.length≠b.length->R=false):=aa (λh=>by rw [hR,au (λe=>h (by rw [e]))]);clear hA hB hR;generalize hn:a.length=n at *;generalize hm:b.length=k at *;by_cases hne:n=k;rotate_left
 ·obtain rfl:=HL.out hne;have hne':((n:Int) != (k:Int))=true:=by rw [bne_iff_ne];omega
  clear HR HL;go_enter func20,ntmps20;go_wp2;go_ret;exact ⟨rfl,0,rfl⟩
 subst hne;clear HL;go_enter func20,ntmps20;go_wp2_with fail;go_loopw [5] (λi wr=>∃j q:Nat,j<=n/\i=.int .i64 j/\Hid (R=decide (a.drop j=b.drop j))/\wr=w.drewN q) (λi _=>n-(RowKit.intOf i).toNat)
 case atStart=>exact ⟨0,0,by omega,rfl,HR,rfl⟩
 case round =>
  obtain ⟨j,q,hj,rfl,HK,rfl⟩:=hrel;by_cases hgo:j<n
  ·obtain ⟨b1,aJ,gb,hv1,hx1⟩:=Row.some HA.out (by omega);injection hv1 with cJ e11 e12;subst cJ;obtain ⟨b2,dZ,cap2,hv2,hx2⟩:=Row.some HB.out (by omega);injection hv2 with kQ ng ni;subst kQ;obtain ⟨x,hxk⟩:∃x,a[j]?=some x:=⟨_,aY (by omega)⟩;obtain ⟨y,hyk⟩:∃y,b[j]?=some y:=⟨_,aY (by omega)⟩;have k1:=hx1 j x hxk;have k2:=hx2 j y hyk;rw [Nat.mul_one] at k1 k2;have HN:=aa (ZB hxk hyk HK.out);clear hx1 hx2 hxk hyk HK e11 e12 ng ni;go_upto_region 6 with fail;go_quiet (fail);by_cases hxy:x=y
   ·subst hxy;have dQ:Hid (R=decide (a.drop (j+1)=b.drop (j+1))):=aa (by rw [HN.out,aC rfl,fN]);clear HN;go_wp2;go_roundw
    case rel=>exact ⟨j+1,q+nq,by omega,by go_num,dQ,by first|rfl|(rw [World.drewN_drewN])⟩
    case measure=>simp [RowKit.intOf];omega
   obtain rfl:R=false:=by rw [HN.out,au hxy];rfl
   have aaW:(x != y)=true:=by rw [bne_iff_ne];exact hxy
   clear HN;go_wp2;go_ret;exact ⟨rfl,q+nq,by first|rfl|(rw [World.drewN_drewN])⟩
  obtain rfl:R=true:=by rw [HK.out,List.drop_of_length_le (by omega),List.drop_of_length_le (by omega)];rfl
  clear HK;go_wp2;go_ret;exact ⟨rfl,q,rfl⟩
namespace aA
def rW {α:Type} (f:α->α->Bool) (x y:Ins α):Bool:=decide (x.op=y.op)&&(decide (x.a=y.a)&&(decide (x.b=y.b)&&(decide (x.n=y.n)&&(decide (x.labels=y.labels)&&(f x.body y.body&&f x.els y.els)))))
def rz {α:Type} (f:α->α->Bool):List (Ins α)->List (Ins α)->Bool
 | [],[]=>true
 | x :: r,y :: s=>rW f x y&&rz f r s
 | _,_=>false
def nY:(d:Nat)->IL d->IL d->Bool
 | 0,_,_=>true
 | d+1,l,k=>rz (nY d) l k
theorem Oy {α:Type} {f:α->α->Bool}:∀(l k:List (Ins α)),l.length≠k.length->rz f l k=false
 | [],[],h=>absurd rfl h
 | [],_ :: _,_=>rfl
 | _ :: _,[],_=>rfl
 | x :: r,y :: s,h=>by
  show (rW f x y&&rz f r s)=false;rw [Oy r s (by simpa using h),Bool.and_false]
theorem aar {α:Type} {f:α->α->Bool} {a b:List (Ins α)} {j:Nat} {x y:Ins α} {R:Bool} (hx:a[j]?=some x) (hy:b[j]?=some y) (h:R=rz f (a.drop j) (b.drop j)):R=(rW f x y&&rz f (a.drop (j+1)) (b.drop (j+1))):=by
 have hl:j<a.length:=(fZ.1 hx).1;have he:a[j]=x:=(fZ.1 hx).2;have hl2:j<b.length:=(fZ.1 hy).1;have he2:b[j]=y:=(fZ.1 hy).2;rw [h,lX hl,he,lX hl2,he2];rfl
structure pQ (b:Nat) (v0 v1 v2 v3 v4 v5 v6:Value) (u:World):Prop where
 c0:u.cell? ⟨b,0,none⟩=some v0
 c1:u.cell? ⟨b,1,none⟩=some v1
 c2:u.cell? ⟨b,2,none⟩=some v2
 c3:u.cell? ⟨b,3,none⟩=some v3
 c4:u.cell? ⟨b,4,none⟩=some v4
 c5:u.cell? ⟨b,5,none⟩=some v5
 c6:u.cell? ⟨b,6,none⟩=some v6
theorem pQ.on {u u':World} (hb:Below u.heap.size u u') {b:Nat} {v0 v1 v2 v3 v4 v5 v6:Value} (h:pQ b v0 v1 v2 v3 v4 v5 v6 u):pQ b v0 v1 v2 v3 v4 v5 v6 u' :=
 ⟨aj hb h.c0,aj hb h.c1,aj hb h.c2,aj hb h.c3,aj hb h.c4,aj hb h.c5,aj hb h.c6⟩
theorem pQ.new (w:World) (t:TypeId) (b:Nat) (v0 v1 v2 v3 v4 v5 v6:Value) (hb:b=w.heap.size):pQ b v0 v1 v2 v3 v4 v5 v6 (w.alloc (.cells #[v0,v1,v2,v3,v4,v5,v6] t)):=by
 refine ⟨?_,?_,?_,?_,?_,?_,?_⟩<;>(rw [World.cell?_alloc_at _ t _ _ hb];rfl)
end aA
def Oz (d:Nat):Prop:=∀(va vb:Value) (a b:IL d) (w:World),At w d va a->At w d vb b ->
  Calls prog 21 #[va,vb] w λe w'=>e=.returned (.bool (nY d a b))/\Below w.heap.size w w'
theorem aas (oa ob:Option Addr) (n k ca cb:Nat) (w:World) (hn:n<=9223372036854775807) (hk:k<=9223372036854775807) (hne:n≠k) :
  Calls prog 21 #[.slice oa n ca,.slice ob k cb] w λe w'=>e=.returned (.bool false)/\w'=w:=by
 have hne':((n:Int) != (k:Int))=true:=by rw [bne_iff_ne];omega
 go_enter func21,ntmps21;go_wp2;go_ret;exact ⟨rfl,rfl⟩
theorem aat (oa ob:Option Addr) (ca cb:Nat) (w:World) :
  Calls prog 21 #[.slice oa 0 ca,.slice ob 0 cb] w λe w'=>e=.returned (.bool true)/\w'=w:=by
 go_enter func21,ntmps21;go_wp2_with fail;go_loopw [5] (λi wr=>i=.int .i64 0/\wr=w) (λ_ _=>0)
 case atStart=>exact ⟨rfl,rfl⟩
 case round =>
  obtain ⟨rfl,rfl⟩:=hrel;go_wp2;go_ret;exact ⟨rfl,rfl⟩
theorem aau (d:Nat) (IH:Oz d) (va vb:Value) (a b:List (Ins (IL d))) (w:World) (hA:Row 7 (fA w (At w d)) va a) (hB:Row 7 (fA w (At w d)) vb b) :
  Calls prog 21 #[va,vb] w λe w'=>e=.returned (.bool (rz (nY d) a b))/\Below w.heap.size w w':=by
 have la:=hA.1;have lb:=hB.1;obtain ⟨oa,ca,rfl⟩:=Row.len hA;obtain ⟨ob,cb,rfl⟩:=Row.len hB;by_cases hne:a.length=b.length;rotate_left
 ·rw [Oy _ _ hne];exact (aas oa ob _ _ ca cb w la lb hne).mono λe w' ⟨h1,h2⟩=>⟨h1,by rw [h2];exact Below.refl _ _⟩
 have HA:=aa hA;have HB:=aa hB;obtain ⟨R,hR⟩:∃R,R=rz (nY d) a b:=⟨_,rfl⟩;rw [<- hR];have HR:Hid (R=rz (nY d) (a.drop 0) (b.drop 0)):=hR;clear hA hB hR;generalize hn:a.length=n at *;generalize hm:b.length=k at *;subst hne;clear lb;go_enter func21,ntmps21;go_wp2_with fail;go_loopw [5] (λi wr=>∃j:Nat,j<=n/\i=.int .i64 j/\Hid (R=rz (nY d) (a.drop j) (b.drop j))/\Hid (Below w.heap.size w wr)) (λi _=>n-(RowKit.intOf i).toNat)
 case atStart=>exact ⟨0,by omega,rfl,HR,aa (Below.refl _ _)⟩
 case round =>
  obtain ⟨j,hj,rfl,HK,HP⟩:=hrel;by_cases hgo:j<n
  ·obtain ⟨b1,aJ,gb,hv1,hx1⟩:=Row.some HA.out (by omega);injection hv1 with cJ e11 e12;subst cJ;obtain ⟨b2,dZ,cap2,hv2,hx2⟩:=Row.some HB.out (by omega);injection hv2 with kQ ng ni;subst kQ;obtain ⟨x,hxk⟩:∃x,a[j]?=some x:=⟨_,aY (by omega)⟩;obtain ⟨y,hyk⟩:∃y,b[j]?=some y:=⟨_,aY (by omega)⟩;have HX:=aa ((hx1 j x hxk).on HP.out (At.on HP.out d));have HY:=aa ((hx2 j y hyk).on HP.out (At.on HP.out d));have HN:=aa (aar hxk hyk HK.out);clear hx1 hx2 hxk hyk HK e11 e12 ng ni;obtain ⟨g0,g1,g2,g3,⟨lx,g4,dw⟩,⟨bx,g5,dx⟩,⟨ex,g6,dz⟩⟩:=HX.out;obtain ⟨h0,h1,h2,h3,⟨ly,h4,IG⟩,⟨by_,h5,II⟩,⟨ey,h6,IJ⟩⟩:=HY.out;obtain ⟨Aa,C8,rfl⟩:=Row.len dw;obtain ⟨lyo,lyc,rfl⟩:=Row.len IG;obtain ⟨Bl,Bm,rfl⟩:=At.len d bx _ dx;obtain ⟨Bn,exc,rfl⟩:=At.len d ex _ dz;obtain ⟨byo,byc,rfl⟩:=At.len d by_ _ II;obtain ⟨eyo,eyc,rfl⟩:=At.len d ey _ IJ;have jX:=aa dw;have jc:=aa dx;have iP:=aa dz;have tq:=aa IG;have qY:=aa II;have pW:=aa IJ;clear dw dx dz IG II IJ HX HY;have z1:b1<wr.heap.size:=World.block_lt_of_cell? _ _ g0;have z2:b2<wr.heap.size:=World.block_lt_of_cell? _ _ h0;go_upto_region 6 with fail;go_cut [6,7] from 19 to 26 (λs6 s7 wx=>∃p q:Nat,s6=.pointer (some ⟨p,0,none⟩)/\s7=.pointer (some ⟨q,0,none⟩)/\Hid (pQ p (.int .i64 x.op) (.int .i64 x.a) (.int .i64 x.b) (.int .i64 x.n) (.slice Aa x.labels.length C8) (.slice Bl (size d x.body) Bm) (.slice Bn (size d x.els) exc) wx)/\Hid (pQ q (.int .i64 y.op) (.int .i64 y.a) (.int .i64 y.b) (.int .i64 y.n) (.slice lyo y.labels.length lyc) (.slice byo (size d y.body) byc) (.slice eyo (size d y.els) eyc) wx)/\Hid (Below wr.heap.size wr wx))
   case first =>
    go_region
    ·go_wp2_with fail
     go_meet
     exact ⟨wr.heap.size,wr.heap.size+1,rfl,rfl,aa (pQ.on (Ba _) (pQ.on (aU _ _) (pQ.new wr _ _ _ _ _ _ _ _ _ rfl))),aa (pQ.on (Ba _) (pQ.new _ _ _ _ _ _ _ _ _ _ (by simp))),aa (ky (ky (aU _ _) (aU _ _)) (Ba _))⟩
    go_wp2_with fail
    go_meet
    exact ⟨wr.heap.size+1,wr.heap.size,rfl,rfl,aa (pQ.on (Ba _) (pQ.new _ _ _ _ _ _ _ _ _ _ (by simp))),aa (pQ.on (Ba _) (pQ.on (aU _ _) (pQ.new wr _ _ _ _ _ _ _ _ _ rfl))),aa (ky (ky (aU _ _) (aU _ _)) (Ba _))⟩
   obtain ⟨p,q,rfl,rfl,SX,SY,HC⟩:=hcut;clear g0 g1 g2 g3 g4 g5 g6 h0 h1 h2 h3 h4 h5 h6 z1 z2;have HP:=aa (ky HP.out HC.out);have jX:=aa (jX.out.on HC.out);have tq:=aa (tq.out.on HC.out);have jc:=aa (At.on HC.out _ _ _ jc.out);have qY:=aa (At.on HC.out _ _ _ qY.out);have iP:=aa (At.on HC.out _ _ _ iP.out);have pW:=aa (At.on HC.out _ _ _ pW.out);clear HC;obtain ⟨g0,g1,g2,g3,g4,g5,g6⟩:=SX.out;obtain ⟨h0,h1,h2,h3,h4,h5,h6⟩:=SY.out;have dQ:Hid (R=(rW (nY d) x y&&rz (nY d) (a.drop (j+1)) (b.drop (j+1)))):=HN;unfold rW at dQ;clear HN;by_cases Ff:x.op=y.op;rotate_left
   ·have top:(x.op != y.op)=true:=by rw [bne_iff_ne];exact Ff
    obtain rfl:R=false:=by rw [dQ.out,au Ff];rfl
    clear dQ;go_wp2;go_ret;exact ⟨rfl,HP.out⟩
   have top:(x.op != y.op)=false:=by rw [bne_eq_false_iff_eq];exact Ff
   rw [aC Ff,fN] at dQ;by_cases ea:x.a=y.a;rotate_left
   ·have ta:(x.a != y.a)=true:=by rw [bne_iff_ne];exact ea
    obtain rfl:R=false:=by rw [dQ.out,au ea];rfl
    clear dQ;go_wp2;go_ret;exact ⟨rfl,HP.out⟩
   have ta:(x.a != y.a)=false:=by rw [bne_eq_false_iff_eq];exact ea
   rw [aC ea,fN] at dQ;by_cases eb:x.b=y.b;rotate_left
   ·have tb:(x.b != y.b)=true:=by rw [bne_iff_ne];exact eb
    obtain rfl:R=false:=by rw [dQ.out,au eb];rfl
    clear dQ;go_wp2;go_ret;exact ⟨rfl,HP.out⟩
   have tb:(x.b != y.b)=false:=by rw [bne_eq_false_iff_eq];exact eb
   rw [aC eb,fN] at dQ;by_cases en:x.n=y.n;rotate_left
   ·have tn:(x.n != y.n)=true:=by rw [bne_iff_ne];exact en
    obtain rfl:R=false:=by rw [dQ.out,au en];rfl
    clear dQ;go_wp2;go_ret;exact ⟨rfl,HP.out⟩
   have tn:(x.n != y.n)=false:=by rw [bne_eq_false_iff_eq];exact en
   rw [aC en,fN] at dQ;go_wp2_with fail;refine (Aq _ _ x.labels y.labels _ jX.out tq.out).mono ?_;rintro e u1 ⟨rfl,nd,hnd⟩;have hb:Below wc.heap.size wc u1:=by rw [hnd];exact yd _ _
   clear hnd;have HP:=aa (ky HP.out hb);have SX:=aa (SX.out.on hb);have SY:=aa (SY.out.on hb);have jc:=aa (At.on hb _ _ _ jc.out);have qY:=aa (At.on hb _ _ _ qY.out);have iP:=aa (At.on hb _ _ _ iP.out);have pW:=aa (At.on hb _ _ _ pW.out);clear hb g0 g1 g2 g3 g4 g5 g6 h0 h1 h2 h3 h4 h5 h6 jX tq;generalize decide (x.labels=y.labels)=tl at *;cases tl with
   | false =>
    obtain rfl:R=false:=dQ.out;clear dQ;go_wp2;go_ret;exact ⟨rfl,HP.out⟩
   | true =>
   obtain ⟨g0,g1,g2,g3,g4,g5,g6⟩:=SX.out;obtain ⟨h0,h1,h2,h3,h4,h5,h6⟩:=SY.out;go_wp2_with fail;refine (IH _ _ x.body y.body _ jc.out qY.out).mono ?_;rintro e u2 ⟨rfl,hb⟩;have HP:=aa (ky HP.out hb);have SX:=aa (SX.out.on hb);have SY:=aa (SY.out.on hb);have iP:=aa (At.on hb _ _ _ iP.out);have pW:=aa (At.on hb _ _ _ pW.out);clear hb g0 g1 g2 g3 g4 g5 g6 h0 h1 h2 h3 h4 h5 h6 jc qY;generalize nY d x.body y.body=tb at *;cases tb with
   | false =>
    obtain rfl:R=false:=dQ.out;clear dQ;go_wp2;go_ret;exact ⟨rfl,HP.out⟩
   | true =>
   obtain ⟨g0,g1,g2,g3,g4,g5,g6⟩:=SX.out;obtain ⟨h0,h1,h2,h3,h4,h5,h6⟩:=SY.out;go_wp2_with fail;refine (IH _ _ x.els y.els _ iP.out pW.out).mono ?_;rintro e u3 ⟨rfl,hb⟩;have HP:=aa (ky HP.out hb);clear hb g0 g1 g2 g3 g4 g5 g6 h0 h1 h2 h3 h4 h5 h6 iP pW SX SY;generalize nY d x.els y.els=te at *;cases te with
   | false =>
    obtain rfl:R=false:=dQ.out;clear dQ;go_wp2;go_ret;exact ⟨rfl,HP.out⟩
   | true =>
   have HN3:Hid (R=rz (nY d) (a.drop (j+1)) (b.drop (j+1))):=aa (by rw [dQ.out];simp only [fN]);clear dQ;go_wp2;go_roundw
   case rel=>exact ⟨j+1,by omega,by go_num,HN3,HP⟩
   case measure=>simp [RowKit.intOf];omega
  obtain rfl:R=true:=by rw [HK.out,List.drop_of_length_le (by omega),List.drop_of_length_le (by omega)];rfl
  clear HK;go_wp2;go_ret;exact ⟨rfl,HP.out⟩
theorem Gg:∀(d:Nat),Oz d
 | 0=>λva vb a b w ⟨oa,ca,hva⟩ ⟨ob,cb,hvb⟩=>by
  subst hva;subst hvb;exact (aat oa ob ca cb w).mono λe w' ⟨h1,h2⟩=>⟨h1,by rw [h2];exact Below.refl _ _⟩
 | d+1=>λva vb a b w hA hB=>aau d (Gg d) va vb a b w hA hB
end Go.Proofs.YtmfcojpjpgldhaaGreatDoor

namespace Go.Proofs.YtmfcojpjpgldhaaGreatDoor
open Go.RowKit aA Go.Proofs.Tryz
set_option linter.unusedVariables false
set_option maxHeartbeats 4000000
set_option maxRecDepth 100000
namespace aA
def dY (w:World) (p:Nat) (op a b n:Int) (v4 v5 v6:Value):Prop:=w.heap[p]?=some (.cells #[.int .i64 op,.int .i64 a,.int .i64 b,.int .i64 n,v4,v5,v6] 49 (0,0))
theorem dY.new (w:World) (p:Nat) (op a b n:Int) (v4 v5 v6:Value) (hp:p=w.heap.size):dY (w.alloc (.cells #[.int .i64 op,.int .i64 a,.int .i64 b,.int .i64 n,v4,v5,v6] 49)) p op a b n v4 v5 v6:=by
 subst hp;exact heap_alloc_new w _
theorem dY.cell {w:World} {p:Nat} {op a b n:Int} {v4 v5 v6:Value} (h:dY w p op a b n v4 v5 v6) (i:Nat) (v:Value) (hv:#[Value.int .i64 op,.int .i64 a,.int .i64 b,.int .i64 n,v4,v5,v6][i]?=some v):w.cell? ⟨p,i,none⟩=some v:=by
 unfold World.cell?;rw [h];exact hv
theorem dY.bz {w:World} {b:Nat} {op a c n:Int} {v4 v5 v6:Value} (h:dY w b op a c n v4 v5 v6):w.cell? ⟨b,0,none⟩=some (Value.int .i64 op)/\w.cell? ⟨b,1,none⟩=some (Value.int .i64 a)/\w.cell? ⟨b,2,none⟩=some (Value.int .i64 c)/\w.cell? ⟨b,3,none⟩=some (Value.int .i64 n)/\w.cell? ⟨b,4,none⟩=some (v4)/\w.cell? ⟨b,5,none⟩=some (v5)/\w.cell? ⟨b,6,none⟩=some (v6):=⟨h.cell 0 _ rfl,h.cell 1 _ rfl,h.cell 2 _ rfl,h.cell 3 _ rfl,h.cell 4 _ rfl,h.cell 5 _ rfl,h.cell 6 _ rfl⟩
theorem dY.fM {w:World} {p:Nat} {op a b n:Int} {v4 v5 v6:Value} (h:dY w p op a b n v4 v5 v6) (i:Nat):w.frozen? ⟨p,i,none⟩=false:=by
 unfold World.frozen?;rw [h];simp
theorem dY.keep {w w':World} {p:Nat} {op a b n:Int} {v4 v5 v6:Value} (h:dY w p op a b n v4 v5 v6) (hk:w'.heap[p]?=w.heap[p]?):dY w' p op a b n v4 v5 v6:=by unfold dY at *;rw [hk];exact h
theorem dY.Yx {w:World} {p:Nat} {op a b n:Int} {v4 v5 v6:Value} (h:dY w p op a b n v4 v5 v6) (v:Value):dY (w.setCell ⟨p,4,none⟩ v) p op a b n v v5 v6:=heap_setCell_same w p 4 _ _ v h
theorem dY.Gi {w:World} {p:Nat} {op a b n:Int} {v4 v5 v6:Value} (h:dY w p op a b n v4 v5 v6) (v:Value):dY (w.setCell ⟨p,5,none⟩ v) p op a b n v4 v v6:=heap_setCell_same w p 5 _ _ v h
theorem dY.Yy {w:World} {p:Nat} {op a b n:Int} {v4 v5 v6:Value} (h:dY w p op a b n v4 v5 v6) (v:Value):dY (w.setCell ⟨p,6,none⟩ v) p op a b n v4 v5 v:=heap_setCell_same w p 6 _ _ v h
theorem dY.lt {w:World} {p:Nat} {op a b n:Int} {v4 v5 v6:Value} (h:dY w p op a b n v4 v5 v6):p<w.heap.size:=(kD.1 h).1
def But (p:Nat) (w w':World):Prop:=w.grownBy w' (some p)
theorem But.below {p:Nat} {w w':World} (h:But p w w'):Below p w w'\/w.heap.size<p:=by
 by_cases hp:p<=w.heap.size
 ·exact .inl ⟨h.os,h.tape,h.output,h.size,λk hk=>h.block k (by omega) (λe=>by injection e with e;omega)⟩
 exact .inr (by omega)
def Pc (d:Nat):Type:=Ins (IL d) × Value × Value × Value
def sV {d:Nat} (p:Pc d):List Value:=[.int .i64 p.1.op,.int .i64 p.1.a,.int .i64 p.1.b,.int .i64 p.1.n,p.2.1,p.2.2.1,p.2.2.2]
def uD {d:Nat} (ps:List (Pc d)):List Value:=ps.flatMap sV
structure vC {d:Nat} (w:World) (S:Nat->Prop) (p:Pc d):Prop where
 labels:tT w S p.2.1 p.1.labels
 body:jG w S d p.2.2.1 p.1.body
 els:jG w S d p.2.2.2 p.1.els
theorem vC.keep {d:Nat} {w w':World} {S S':Nat->Prop} (hk:∀k,S k->S' k/\w'.heap[k]?=w.heap[k]?) {p:Pc d} (h:vC w S p):vC w' S' p:=⟨h.labels.keep hk,jG.keep hk _ _ _ h.body,jG.keep hk _ _ _ h.els⟩
theorem ME {d:Nat}:∀(ps:List (Pc d)) (i:Nat) (p:Pc d),ps[i]?=some p->∀k v,(sV p)[k]?=some v->(uD ps)[i*7+k]?=some v
 | [],_,_,h,_,_,_=>by simp at h
 | q :: r,0,p,h,k,v,hv=>by
  have:q=p:=by simpa using h
  subst this;show (sV q++uD r)[0*7+k]?=some v;have hk:k<(sV q).length:=(fZ.1 hv).1;rw [Nat.zero_mul,Nat.zero_add,zX hk];exact hv
 | q :: r,i+1,p,h,k,v,hv=>by
  have h':r[i]?=some p:=by simpa using h
  show (sV q++uD r)[(i+1)*7+k]?=some v;rw [zx (by show 7<=_;omega),show (i+1)*7+k-(sV q).length=i*7+k by show (i+1)*7+k-7=_;omega];exact ME r i p h' k v hv
theorem Yz {d:Nat} (ps:List (Pc d)) (h:∀p ∈ ps,p.2.1.oneCell'=true/\p.2.2.1.oneCell'=true/\p.2.2.2.oneCell'=true):∀u ∈ uD ps,u.oneCell'=true:=by
 intro u hu;obtain ⟨p,hp,hu⟩:=List.mem_flatMap.1 hu;obtain ⟨h1,h2,h3⟩:=h p hp;simp only [sV,pR,List.mem_nil_iff,or_false] at hu;rcases hu with rfl|rfl|rfl|rfl|rfl|rfl|rfl
 ·rfl
 ·rfl
 ·rfl
 ·rfl
 ·exact h1
 ·exact h2
 exact h3
theorem YA {d:Nat} {w:World} {B:Nat} {t:Value} (l:List (Ins (IL d))) (ps:List (Pc d)) (hm:ps.map (·.1)=l) (hn:l.length<=9223372036854775807) (ho:w.ownsRow B 49 7 t ps.length (uD ps)) (hp:∀p ∈ ps,vC w (Since B w t.ownBlock) p) :
  jG w (Since B w none) (d+1) t l:=by
 have hlen:ps.length=l.length:=by rw [<- hm,oI]
 have hup:∀k,Since B w t.ownBlock k->Since B w none k/\w.heap[k]?=w.heap[k]?:=λk hk=>⟨⟨hk.1,hk.2.1,by simp⟩,rfl⟩;rcases ho.2 with ⟨rfl,h0⟩|⟨g,cap,cur,rfl,hbg,hg,_,_,_,_⟩
 ·have:l = []:=mM.1 (by omega)
  subst this;exact ⟨by simp,.inl ⟨rfl,none,0,rfl⟩⟩
 have hgl:g<w.heap.size:=(kD.1 hg).1;refine ⟨hn,.inr ⟨g,0,cap,by rw [hlen],λi x hx=>?_⟩⟩;have hi:i<ps.length:=by rw [hlen];exact (fZ.1 hx).1
 obtain ⟨p,hpi⟩:∃p,ps[i]?=some p:=⟨_,aY hi⟩
 have hpx:p.1=x:=by
  have:(ps.map (·.1))[i]?=some p.1:=by rw [List.getElem?_map,hpi];rfl
  rw [hm,hx] at this;exact (Option.some.inj this).symm
 subst hpx;have hok:=(hp p (dK hpi)).keep hup
 have hc:∀k v,(sV p)[k]?=some v->w.cell? ⟨g,0+i*7+k,none⟩=some v:=λk v hv=>by
  have:=ho.cells (g:=g) rfl (i*7+k) v (ME ps i p hpi k v hv)
  rw [rC] at this;rw [Nat.add_assoc];exact this
 exact ⟨⟨hbg,hgl,by simp⟩,hc 0 _ rfl,hc 1 _ rfl,hc 2 _ rfl,hc 3 _ rfl,⟨_,hc 4 _ rfl,hok.labels⟩,⟨_,hc 5 _ rfl,hok.body⟩,⟨_,hc 6 _ rfl,hok.els⟩⟩
end aA
theorem YB:(prog.info? 3).map (λi=>(i.zero,i.size,i.bytes))=some (some (.int .i64 0),1,8):=by kernel_rfl
theorem YC:(prog.info? 49).map (λi=>(i.zero,i.size,i.bytes))=some (some (.agg #[.int .i64 0,.int .i64 0,.int .i64 0,.int .i64 0,.slice none 0 0,.slice none 0 0,.slice none 0 0]),7,104):=by kernel_rfl
namespace aA
theorem MF {w:World} {ad:Addr} {n c:Nat} {l:List Int} (h:Ints w (.slice (some ad) n c) l):∀j u,(l.map λz=>Value.int .i64 z)[j]?=some u->w.cell? (ad.add j)=some u:=λj u hj=>by
 rw [List.getElem?_map] at hj;obtain ⟨z,hz,rfl⟩:=Option.map_eq_some_iff.1 hj;rcases h.2 with ⟨rfl,_⟩|⟨b,off,cap,hv,hc⟩
 ·simp at hz
 injection hv with hv;injection hv with hv;subst hv
 have:=hc j z hz
 rw [Nat.mul_one] at this;rw [rC];exact this
theorem MG {w:World} {n c:Nat} {l:List Int} (h:Ints w (.slice none n c) l):l = []:=by
 rcases h.2 with ⟨h,_⟩|⟨_,_,_,h,_⟩
 ·exact h
 injection h with h;cases h
theorem Al (l:List Int):∀u ∈ l.map (λz=>Value.int .i64 z),u.oneCell'=true:=λu hu=>by
 obtain ⟨z,_,rfl⟩:=List.mem_map.1 hu;rfl
theorem Gd {w:World} {B:Nat} {v:Value} {l:List Int} (h:w.ownsRow B 3 1 v l.length (l.map λz=>Value.int .i64 z)) (hn:l.length<=9223372036854775807):tT w (Since B w none) v l:=by
 rcases h.2 with ⟨rfl,h0⟩|⟨g,cap,cur,rfl,hbg,hg,_,_,_,_⟩
 ·obtain rfl:l = []:=mM.1 h0;exact ⟨hn,.inl ⟨rfl,none,0,rfl⟩⟩
 have hgl:g<w.heap.size:=(kD.1 hg).1;refine ⟨hn,.inr ⟨g,0,cap,rfl,λi x hx=>⟨⟨hbg,hgl,by simp⟩,?_⟩⟩⟩
 have:=h.cells (g:=g) rfl i (.int .i64 x) (by rw [List.getElem?_map,hx];rfl)
 rw [rC] at this;rw [Nat.mul_one];exact this
theorem YD {w w':World} {o:Obj} (h:(w.alloc o).grownBy w' (Value.slice (some ⟨w.heap.size,0,none⟩) 0 0).ownBlock):Below w.heap.size w w' :=
 ⟨h.os.trans rfl,h.tape.trans rfl,h.output.trans rfl,by have:=h.size;simp at this;omega,λk hk=>by
  rw [h.block k (by simp;omega) (by show some k≠some w.heap.size;intro e;injection e with e;omega)];exact Below.heap_alloc w o k hk⟩
theorem yn {w w':World} {B:Nat} {e:TypeId} {size:Nat} {v:Value} {n:Nat} {xs:List Value} (h:w.ownsRow B e size v n xs) (hb:Below w.heap.size w w'):w'.ownsRow B e size v n xs :=
 ⟨h.1,h.2.imp id λ⟨g,cap,cur,h1,h2,h3,h4⟩=>⟨g,cap,cur,h1,h2,by rw [hb.block g (kD.1 h3).1];exact h3,h4⟩⟩
def Bg {d:Nat} (x:Ins (IL d)) (a b c:Value):Pc d:=(x,a,b,c)
theorem YE {d:Nat} (ps:List (Pc d)) (p:Pc d):uD (ps++[p])=uD ps++sV p:=by
 unfold uD;rw [vR];simp
theorem YF {d:Nat} (p:Pc d) (h1:p.2.1.oneCell'=true) (h2:p.2.2.1.oneCell'=true) (h3:p.2.2.2.oneCell'=true):∀u ∈ sV p,u.oneCell'=true:=by
 have:=Yz [p] (λq hq=>by rw [List.mem_singleton.1 hq];exact ⟨h1,h2,h3⟩)
 intro u hu;exact this u (by show u ∈ List.flatMap sV [p];simpa using hu)
theorem YG {d:Nat} {w:World} {g:Nat} {x:Ins (IL d)} {v4 v5 v6:Value} (h:dY w g x.op x.a x.b x.n v4 v5 v6):∀j u,(sV (Bg x v4 v5 v6))[j]?=some u->w.cell? ((⟨g,0,none⟩:Addr).add j)=some u:=λj u hj=>by
 rw [rC,Nat.zero_add];refine h.cell j u ?_;rw [<- hj];exact fI
theorem pq {w:World} {B:Nat} {e:TypeId} {size:Nat} {v:Value} {n:Nat} {xs:List Value} (h:w.ownsRow B e size v n xs):∃o c,v=.slice o n c:=by
 rcases h.2 with ⟨rfl,rfl⟩|⟨g,cap,cur,rfl,_⟩
 ·exact ⟨none,0,rfl⟩
 exact ⟨_,_,rfl⟩
end aA
def D7 (d:Nat) (l:IL d) (w:World) (e:Ending) (w':World):Prop:=∃v',e=.returned v'/\jG w' (Since w.heap.size w' none) d v' l/\Below w.heap.size w w'
def CopyRow (d:Nat) (l:List (Ins (IL d))) (w:World) (e:Ending) (w':World):Prop:=∃(v':Value) (ps:List (Pc d)),e=.returned v'/\ps.map (·.1)=l/\w'.ownsRow w.heap.size 49 7 v' l.length (uD ps)/\(∀p ∈ ps,vC w' (Since w.heap.size w' v'.ownBlock) p)/\Below w.heap.size w w'
def FW (d:Nat):Prop:=∀(v:Value) (l:IL d) (w:World),At w d v l->Lb d l->Calls prog 11 #[v] w (D7 d l w)
theorem RQ (o:Option Addr) (cap:Nat) (w:World) :
  Calls prog 11 #[.slice o 0 cap] w λe w'=>e=.returned (.slice none 0 0)/\w'=w:=by
 go_enter func11,ntmps11;go_wp2_with fail;go_loopw [3,4] (λt i wr=>t=.slice none 0 0/\i=.int .i64 0/\wr=w) (λ_ _ _=>0)
 case atStart=>exact ⟨rfl,rfl,rfl⟩
 case round =>
  obtain ⟨rfl,rfl,rfl⟩:=hrel;go_wp2;go_ret;exact ⟨rfl,rfl⟩
namespace aA
def After (d:Nat) (x:Ins (IL d)) (p:Nat) (v4:Value) (wr wx:World):Prop :=
 ∃v5 v6,dY wx p x.op x.a x.b x.n v4 v5 v6/\tT wx (Since (p+1) wx none) v4 x.labels/\jG wx (Since (p+1) wx none) d v5 x.body/\jG wx (Since (p+1) wx none) d v6 x.els/\Below p wr wx
theorem YV {d:Nat} {x:Ins (IL d)} {p:Nat} {v4 v5 v6 bv ev:Value} {wr u3 u4 u5:World} (h3:Below p wr u3) (hI:tT u3 (Since (p+1) u3 none) v4 x.labels) (hB:dY u5 p x.op x.a x.b x.n v4 bv ev)
  (h4:Below u3.drew.heap.size u3.drew u4) (h5:Below u4.heap.size u4 u5) (s5:jG u4 (Since u3.drew.heap.size u4 none) d v5 x.body) (s6:jG u5 (Since u4.heap.size u5 none) d v6 x.els) (hp:p<u3.heap.size) :
  After d x p v4 wr ((u5.setCell ⟨p,5,none⟩ v5).setCell ⟨p,6,none⟩ v6):=by
 have e3:u3.drew.heap.size=u3.heap.size:=rfl;have z4:u3.heap.size<=u4.heap.size:=h4.size;have z5:u4.heap.size<=u5.heap.size:=h5.size
 have set:∀k,k≠p->((u5.setCell ⟨p,5,none⟩ v5).setCell ⟨p,6,none⟩ v6).heap[k]?=u5.heap[k]?:=λk hk=>by
  rw [Below.heap_setCell _ _ _ _ (by show k≠p;exact hk),Below.heap_setCell _ _ _ _ (by show k≠p;exact hk)]
 have hsz:((u5.setCell ⟨p,5,none⟩ v5).setCell ⟨p,6,none⟩ v6).heap.size=u5.heap.size:=by simp
 refine ⟨v5,v6,(hB.Gi v5).Yy v6,hI.keep λk hk=>?_,jG.keep (λk hk=>?_) _ _ _ s5,jG.keep (λk hk=>?_) _ _ _ s6,?_⟩
 ·have:=hk.1
  have h2:=hk.2.1;refine ⟨⟨hk.1,by rw [hsz];omega,by simp⟩,?_⟩;rw [set k (by omega),h5.block k (by omega),h4.block k (by rw [e3];omega)];rfl
 ·have h1:=hk.1;have h2:=hk.2.1;rw [e3] at h1;refine ⟨⟨by omega,by rw [hsz];omega,by simp⟩,?_⟩;rw [set k (by omega),h5.block k (by omega)]
 ·have h1:=hk.1;have h2:=hk.2.1;refine ⟨⟨by omega,by rw [hsz];omega,by simp⟩,?_⟩;rw [set k (by omega)]
 have YW:Below p wr u5:=(h3.drew.trans (h4.mono (by rw [e3];omega))).trans (h5.mono (by omega));exact (YW.setCell (aI _) _).setCell (aI _) _
end aA
theorem YX (d:Nat) (IH:FW d) (v:Value) (l:List (Ins (IL d))) (w:World) (hA:Row 7 (fA w (At w d)) v l) (hL:Ag (Lb d) l) :
  Calls prog 11 #[v] w (CopyRow d l w):=by
 obtain ⟨o,cap,rfl⟩:=Row.len hA;have tZ:=hL.1;have HA:=aa hA;have qE:=aa hL.2;have yE:=aa hA.1;clear hA hL;generalize hn:l.length=n at *;go_enter func11,ntmps11;go_wp2_with fail;go_loopw [3,4] (λt i wr=>∃(j:Nat) (ps:List (Pc d)),j<=n/\i=.int .i64 j/\ps.length=j/\(∃o c,t=.slice o j c)/\Hid (ps.map (·.1)=l.take j)/\Hid (wr.ownsRow w.heap.size 49 7 t j (uD ps))/\Hid (∀p ∈ ps,vC wr (Since w.heap.size wr t.ownBlock) p)/\Hid (Below w.heap.size w wr)) (λ_ i _=>n-(RowKit.intOf i).toNat)
 case atStart=>exact ⟨0,[],by omega,rfl,rfl,⟨none,0,rfl⟩,aa rfl,aa (World.ownsRow_nil _ _ _ _),aa (λp hp=>by cases hp),aa (Below.refl _ _)⟩
 case round =>
  obtain ⟨j,ps,hj,rfl,hpl,⟨oT,cT,rfl⟩,Hp,HO,A9,HP⟩:=hrel;by_cases hgo:j<n
  ·obtain ⟨b1,aJ,gb,hv1,hx1⟩:=Row.some HA.out (by omega);injection hv1 with cJ e11 e12;subst cJ;obtain ⟨x,hxk⟩:∃x,l[j]?=some x:=⟨_,aY (by omega)⟩;have HX:=aa ((hx1 j x hxk).on HP.out (At.on HP.out d));have eU:=aa hxk;obtain ⟨hlab,YY,YZ⟩:=qE.out x (dK hxk);clear hx1 hxk e11 e12;obtain ⟨g0,g1,g2,g3,⟨lx,g4,dw⟩,⟨bx,g5,dx⟩,⟨ex,g6,dz⟩⟩:=HX.out;obtain ⟨Aa,C8,rfl⟩:=Row.len dw;obtain ⟨Bl,Bm,rfl⟩:=At.len d bx _ dx;obtain ⟨Bn,exc,rfl⟩:=At.len d ex _ dz;have jX:=aa dw;have jc:=aa dx;have iP:=aa dz;have di:=aa (dY.new wr wr.heap.size x.op x.a x.b x.n (.slice Aa x.labels.length C8) (.slice Bl (size d x.body) Bm) (.slice Bn (size d x.els) exc) rfl);clear dw dx dz HX;go_upto_region 6 with fail;obtain ⟨u1,hu1⟩:∃u1,u1=wr.alloc (.cells #[.int .i64 x.op,.int .i64 x.a,.int .i64 x.b,.int .i64 x.n,.slice Aa x.labels.length C8,.slice Bl (size d x.body) Bm,.slice Bn (size d x.els) exc] 49):=⟨_,rfl⟩;rw [<- hu1] at di ⊢;have HB1:Hid (Below wr.heap.size wr u1):=aa (by rw [hu1];exact aU _ _);have aV:Hid (u1.heap.size=wr.heap.size+1):=aa (by rw [hu1];simp);clear hu1 g0 g1 g2 g3 g4 g5 g6;obtain ⟨i0,hi,hz0,hz1,hz2⟩:=info_parts YB;have k4:=di.out.cell 4 _ rfl;have f4:=di.out.fM 4;have z0:wr.heap.size<u1.heap.size:=di.out.lt;have yJ:=aa (jX.out.on HB1.out);have Eb:=aa (World.ownsRow_made (e:=3) (size:=1) u1 #[] 0 (aI _) (by unfold maxLen;omega) (by simp));have MV:=aa (λad h=>MF (h ▸ (yJ.out.on (aU u1 (.cells #[] 3)))):∀ad,Aa=some ad->_);have Az:Hid (Aa=none->x.labels.length=0):=aa (λh=>by have:=yJ.out;rw [h] at this;rw [MG this];rfl);generalize EY:wr.heap.size=p at *;go_wp2_with (first|(at_builtin;refine rX rfl _ _ 28 rfl u1.heap.size 3 i0 _ 1 8 underlying28 hi hz0 hz1 hz2 rfl (by decide) _ _ _ rfl Eb.out Aa x.labels.length C8 (x.labels.map λz=>Value.int .i64 z) rfl Az.out ?c0 MV.out ?c2 ?c3 ?c4 ?c5 ?_))
   case c0=>simp
   case c2=>exact Al _
   case c3=>unfold maxLen;omega
   case c4=>omega
   case c5=>simp
   intro v4' u2 hown hg _;have HB2:=aa (YD hg);have yJ:=aa (Gd (l:=x.labels) (by simpa using hown) (by omega));obtain ⟨o4,c4,rfl⟩:=pq hown;have di:=aa (di.out.keep (HB2.out.block p (by omega)));clear hown hg k4 f4 Eb MV Az;have k4:=di.out.cell 4 _ rfl;have f4:=di.out.fM 4;obtain ⟨u3,hu3⟩:∃u3,u3=u2.setCell ⟨p,4,none⟩ (.slice o4 x.labels.length c4):=⟨_,rfl⟩;have bK:Hid (dY u3 p x.op x.a x.b x.n (.slice o4 x.labels.length c4) (.slice Bl (size d x.body) Bm) (.slice Bn (size d x.els) exc)):=aa (by rw [hu3];exact di.out.Yx _)
   have eX:Hid (Below p wr u3):=aa (by
    have h12:Below p wr u2:=HB1.out.trans (HB2.out.mono (by omega));rw [hu3];exact h12.setCell (aI _) _)
   have MW:Hid (tT u3 (Since (p+1) u3 none) (.slice o4 x.labels.length c4) x.labels):=aa (by
    refine yJ.out.keep λk hk=>?_;have h1:=hk.1;have h2:=aV.out;have h3:=hk.2.1;rw [hu3];exact ⟨⟨by omega,by simpa using h3,by simp⟩,Below.heap_setCell _ _ _ _ (by show k≠p;omega)⟩)
   have cG:Hid (p<u3.heap.size):=aa bK.out.lt;have MX:=aa hu3;clear hu3;go_upto_region 7 with fail;rw [<- MX.out];clear MX k4 f4 di yJ HB1 HB2 aV z0;obtain ⟨bv,hbv⟩:∃bv,bv=Value.slice Bl (size d x.body) Bm:=⟨_,rfl⟩;obtain ⟨ev,hev⟩:∃ev,ev=Value.slice Bn (size d x.els) exc:=⟨_,rfl⟩;rw [<- hbv] at jc;rw [<- hev] at iP;rw [<- hbv,<- hev] at bK;rw [<- hbv,<- hev];clear hbv hev;have MZ:∀u,Hid (Below p wr u->Calls prog 11 #[bv] u (D7 d x.body u)):=λu=>aa (λhb=>IH _ x.body u (At.on (EY ▸ hb) _ _ _ jc.out) YY);have M0:∀u,Hid (Below p wr u->Calls prog 11 #[ev] u (D7 d x.els u)):=λu=>aa (λhb=>IH _ x.els u (At.on (EY ▸ hb) _ _ _ iP.out) YZ);have k5:=bK.out.cell 5 _ rfl;have k6:=bK.out.cell 6 _ rfl;go_cut [5] from 21 to 28 (λs5 wx=>s5=.pointer (some ⟨p,0,none⟩)/\Hid (After d x p (.slice o4 x.labels.length c4) wr wx))
   case first =>
    go_region_with (first
     | (go_at_call_of 11 bv;refine ((MZ _).out eX.out.drew).mono ?_;rintro e u4 ⟨M3,rfl,M4,hB4⟩;obtain ⟨o5,c5,rfl⟩:=At.len d M3 _ (jG.at d M3 _ M4);have iw:=aa (bK.out.keep (hB4.block p (by simpa using cG.out)));have k6':=iw.out.cell 6 _ rfl)
     | (go_at_call_of 11 ev;refine ((M0 _).out (eX.out.drew.trans (hB4.mono (by have:=cG.out;simp;omega)))).mono ?_;rintro e u5 ⟨M5,rfl,M6,M7⟩;obtain ⟨o6,c6,rfl⟩:=At.len d M5 _ (jG.at d M5 _ M6);have jF:=aa (iw.out.keep (M7.block p iw.out.lt));have k5':=jF.out.cell 5 _ rfl;have aaU:=jF.out.cell 6 _ rfl;have f5:=jF.out.fM 5;have f6:=jF.out.fM 6))
    all_goals (go_wp2_with fail;go_meet;exact ⟨rfl,aa (YV eX.out MW.out jF.out hB4 M7 M4 M6 cG.out)⟩)
   obtain ⟨rfl,M8⟩:=hcut;clear MZ M0 k5 k6 bK MW eX cG;obtain ⟨v5,v6,AB,AI,A5,A6,M9⟩:=M8.out;obtain ⟨o5,c5,rfl⟩:=At.len d v5 _ (jG.at d v5 _ A5);obtain ⟨o6,c6,rfl⟩:=At.len d v6 _ (jG.at d v6 _ A6);have hBw:Below wr.heap.size wr wc:=by rw [EY];exact M9
   have cg:=aa hBw;have Na:=aa (yn HO.out hBw);have Nb:=aa (λq hq=>(A9.out q hq).keep (LL hBw));have Hq:=aa (ky HP.out hBw);have hBp:w.heap.size<=p:=by rw [<- EY];exact HP.out.size
   have hown':=λk hk=>(HO.out.lt k hk)
   have Nc:Hid (vC wc (Since w.heap.size wc (Value.slice oT j cT).ownBlock) (Bg x (.slice o4 x.labels.length c4) (.slice o5 (size d x.body) c5) (.slice o6 (size d x.els) c6))):=aa (by
    have hup:∀k,Since (p+1) wc none k->Since w.heap.size wc (Value.slice oT j cT).ownBlock k/\wc.heap[k]?=wc.heap[k]?:=λk hk=>⟨⟨by have:=hk.1;omega,hk.2.1,λe=>by have:=(hown' k e.symm).2;have:=hk.1;omega⟩,rfl⟩;exact ⟨AI.keep hup,jG.keep hup _ _ _ A5,jG.keep hup _ _ _ A6⟩)
   have di:=aa AB;clear HO A9 HP AI A5 A6 M9 M8 AB hown' hBw;obtain ⟨k0,k1,k2,k3,k4,k5,k6⟩:=di.out.bz;have vS:=aa (dY.new wc wc.heap.size x.op x.a x.b x.n (.slice o4 x.labels.length c4) (.slice o5 (size d x.body) c5) (.slice o6 (size d x.els) c6) rfl);have Hr:=aa (Na.out.alloc (.cells #[.int .i64 x.op,.int .i64 x.a,.int .i64 x.b,.int .i64 x.n,.slice o4 x.labels.length c4,.slice o5 (size d x.body) c5,.slice o6 (size d x.els) c6] 49));have yl:=aa (aU wc (.cells #[.int .i64 x.op,.int .i64 x.a,.int .i64 x.b,.int .i64 x.n,.slice o4 x.labels.length c4,.slice o5 (size d x.body) c5,.slice o6 (size d x.els) c6] 49));obtain ⟨i1,hi1,hy0,hy1,hy2⟩:=info_parts YC;have sM:Hid (w.heap.size<=wc.heap.size):=aa Hq.out.size;go_wp2_with (first|(at_builtin;refine rX rfl _ _ 43 rfl w.heap.size 49 i1 _ 7 104 underlying43 hi1 hy0 hy1 hy2 rfl (by decide) _ _ _ rfl Hr.out (some ⟨wc.heap.size,0,none⟩) 1 1 (sV (Bg x (.slice o4 x.labels.length c4) (.slice o5 (size d x.body) c5) (.slice o6 (size d x.els) c6))) rfl ?c6 ?c0 ?c1 ?c2 ?c3 ?c4 ?c5 ?_))
   case c6=>intro h;cases h
   case c0=>rfl
   case c1=>exact λad h=>by injection h with h;subst h;exact YG vS.out
   case c2=>exact YF _ rfl rfl rfl
   case c3=>unfold maxLen;omega
   case c4=>omega
   case c5=>have:=sM.out;simp;omega
   intro v' w9 Ht jE lj;have dA:Hid (Below w.heap.size w w9):=aa ((Hq.out.alloc sM.out _).grown jE (by have:=sM.out;simp;omega) λk hk=>(Hr.out.lt k hk).1);have xF:Hid (w9.ownsRow w.heap.size 49 7 v' (j+1) (uD (ps++[(Bg x (.slice o4 x.labels.length c4) (.slice o5 (size d x.body) c5) (.slice o6 (size d x.els) c6))]))):=aa (by rw [YE];exact Ht)
   have Y0:Hid (∀q ∈ ps++[(Bg x (.slice o4 x.labels.length c4) (.slice o5 (size d x.body) c5) (.slice o6 (size d x.els) c6))],vC w9 (Since w.heap.size w9 v'.ownBlock) q):=aa (λq hq=>by
    have key:∀q:Pc d,vC wc (Since w.heap.size wc (Value.slice oT j cT).ownBlock) q->vC w9 (Since w.heap.size w9 v'.ownBlock) q:=λq h=>(h.keep (LL yl.out)).keep (Vt jE (by simpa using lj));rcases List.mem_append.1 hq with hq|hq
    ·exact key q (Nb.out q hq)
    rw [List.mem_singleton.1 hq];exact key _ Nc.out)
   have Y1:Hid ((ps++[(Bg x (.slice o4 x.labels.length c4) (.slice o5 (size d x.body) c5) (.slice o6 (size d x.els) c6))]).map (·.1)=l.take (j+1)):=aa (by
    rw [zA,Hp.out,List.take_add_one,eU.out];rfl)
   have hsl:=pq Ht;clear Ht jE lj Hr Na Nb Nc vS yl di Hq k0 k1 k2 k3 k4 k5 k6;obtain ⟨oN,cN,rfl⟩:=hsl;go_wp2;go_roundw
   case rel=>exact ⟨j+1,_,by omega,by go_num,by simp [hpl],⟨_,_,rfl⟩,Y1,xF,Y0,dA⟩
   case measure=>simp [RowKit.intOf];omega
  obtain rfl:n=j:=by omega
  have Y2:Hid (ps.map (·.1)=l):=aa (by rw [Hp.out,jZ (by omega)]);clear Hp;go_wp2;go_ret;exact ⟨_,_,rfl,Y2.out,by rw [hn];exact HO.out,A9.out,HP.out⟩
theorem Y3 (d:Nat) (IH:FW d) (v:Value) (l:List (Ins (IL d))) (w:World) (hA:Row 7 (fA w (At w d)) v l) (hL:Ag (Lb d) l) :
  Calls prog 11 #[v] w (D7 (d+1) l w) :=
 (YX d IH v l w hA hL).mono λe w' ⟨v',ps,he,hm,ho,hp,hb⟩=>⟨v',he,YA l ps hm hA.1 (by rw [show ps.length=l.length by rw [<- hm,oI]];exact ho) hp,hb⟩
theorem BI:∀(d:Nat),FW d
 | 0=>λv l w ⟨o,cap,hv⟩ _=>by
  subst hv;exact (RQ o cap w).mono λe w' ⟨h1,h2⟩=>⟨_,h1,⟨none,0,rfl⟩,by rw [h2];exact Below.refl _ _⟩
 | d+1=>λv l w hA hL=>Y3 d (BI d) v l w hA hL
end Go.Proofs.YtmfcojpjpgldhaaGreatDoor
