/- Texts that the claim needs. -/
import Derived.Test.YtkdbgopgjbfhbaaGreatDoorQPS42
import Derived.Test.YtkdbgopgjbfhbaaGreatDoorQPS0
import Derived.Test.YtkdbgopgjbfhbaaGreatDoorQPS38
import Derived.Test.YtkdbgopgjbfhbaaGreatDoorQPS39
import Derived.Test.YtkdbgopgjbfhbaaGreatDoorQPS36
namespace Go.Proofs.YtkdbgopgjbfhbaaGreatDoor
open Go.RowKit Lx Pz bb
set_option linter.unusedVariables false
set_option maxRecDepth 100000
set_option maxHeartbeats 8000000
namespace Pz
theorem row_one {d:Nat} {w:World} {t:Value} {cs:Array Value} {b:Nat} (hb:w.heap[b]?=some (.cells cs 27 (0,0))) (h:jH 0 d w t (.agg cs)):pG 0 (.slice (some ⟨b,0,none⟩) 1 1) [t] w:=by
 obtain ⟨e,he⟩:=DZ (b:=b) (o:=0) ⟨d,h⟩ (Nat.zero_le b) (fun j u hu=>af hb _ u (by rw [Nat.zero_add];exact hu))
 exact ⟨e,by simp,.inr ⟨b,0,1,rfl,fun i x hx=>by
  match i,hx with
  | 0,hx=>injection hx with hx;subst hx;simpa using he⟩⟩
end Pz
theorem Z3 (pl:Bool) (m dt:Nat) (ds ks:List Value) (t s v z:Value) (w:World) (hf:fit m t) (Tv:∀c ∈ ds,wB dt c) (h:ny 0 (ds,t) v w) (h2:ny 0 (ks,s) z w):Calls Tryz.prog 12 #[v,z,.bool pl] w fun e w'=>e=.returned (.bool (D8 pl m dt ds ks t s))/\Below w.heap.size w w':=by
 obtain ⟨uD,k,x,y,n,u,uz,a,rfl,hD,hM⟩:=h;obtain ⟨zi,k2,x2,y2,n2,u2,zR,a2,rfl,hD2,hM2⟩:=h2;obtain ⟨W,hW⟩:∃W,W=(w.alloc (.cells #[uD,.int .i64 k,.string x,.string y,.int .i64 n,u,uz,.int .i64 a] 29)).alloc (.cells #[zi,.int .i64 k2,.string x2,.string y2,.int .i64 n2,u2,zR,.int .i64 a2] 29):=⟨_,rfl⟩;have hb1:=dh w (.cells #[uD,.int .i64 k,.string x,.string y,.int .i64 n,u,uz,.int .i64 a] 29);have hb2:=dh (w.alloc (.cells #[uD,.int .i64 k,.string x,.string y,.int .i64 n,u,uz,.int .i64 a] 29)) (.cells #[zi,.int .i64 k2,.string x2,.string y2,.int .i64 n2,u2,zR,.int .i64 a2] 29);have HB:Hid (Below w.heap.size w W):=ae (by rw [hW];exact az hb1 hb2);have HX:Hid (W.heap[w.heap.size]?=some (.cells #[uD,.int .i64 k,.string x,.string y,.int .i64 n,u,uz,.int .i64 a] 29 (0,0))):=ae (by rw [hW,hb2.block _ (by simp)];exact heap_alloc_new w _);have HY:Hid (W.heap[w.heap.size+1]?=some (.cells #[zi,.int .i64 k2,.string x2,.string y2,.int .i64 n2,u2,zR,.int .i64 a2] 29 (0,0))):=ae (by rw [hW];exact Bd _ _ (by simp));have HC:=ae (acj pl dt ds ks uD zi W Tv (mX.on (C:=0) (B:=0) hD (fun kk _ hl=>HB.out.block kk hl) (Nat.le_refl _)) (mX.on (C:=0) (B:=0) hD2 (fun kk _ hl=>HB.out.block kk hl) (Nat.le_refl _)));have HE:=ae (fun (w1:World) (hw1:Below w.heap.size w w1) (b c:Nat) (hb:w1.heap[b]?=some (.cells #[.int .i64 k,.string x,.string y,.int .i64 n,u,uz,.int .i64 a] 27 (0,0))) (hc:w1.heap[c]?=some (.cells #[.int .i64 k2,.string x2,.string y2,.int .i64 n2,u2,zR,.int .i64 a2] 27 (0,0)))=>ack (m+1) pl [t] [s] (.slice (some ⟨b,0,none⟩) 1 1) (.slice (some ⟨c,0,none⟩) 1 1) w1 (fun q hq=>by rw [List.mem_singleton.1 hq];exact hf) (by obtain ⟨d,hd⟩:=hM.tq (fun kk _ hl=>hw1.block kk hl);exact row_one hb hd) (by obtain ⟨d,hd⟩:=hM2.tq (fun kk _ hl=>hw1.block kk hl);exact row_one hc hd));have Tw:fS pl (m+1) [t] [s]=sm pl m t s:=by rw [Ao];simp [dF]
 rw [Tw] at HE;obtain ⟨R,hR⟩:∃R,R=D8 pl m dt ds ks t s:=⟨_,rfl⟩;rw [<- hR];unfold D8 at hR;generalize dF (nA pl dt) ds ks=A at *;generalize sm pl m t s=E at *;have HR:=ae hR;clear hR hD hD2 hM hM2 hf Tv hb1 hb2 Tw;have z0:=af HX.out 0 _ rfl;have u0:=af HY.out 0 _ rfl;go_enter Tryz.func12,Tryz.ntmps12;go_upto_region 1 with fail;rw [<- hW];clear hW;go_wp2_with fail;refine Calls.mono (show Calls _ _ _ _ _ from HC.out) ?_;rintro e w1 ⟨rfl,hb1⟩;have HB1:=ae (az HB.out hb1);have hx1:=(hb1.block _ (Array.getElem?_eq_some_iff.1 HX.out).1).trans HX.out;have hy1:=(hb1.block _ (Array.getElem?_eq_some_iff.1 HY.out).1).trans HY.out;have z1:=af hx1 1 _ rfl;have z2:=af hx1 2 _ rfl;have z3:=af hx1 3 _ rfl;have z4:=af hx1 4 _ rfl;have z5:=af hx1 5 _ rfl;have z6:=af hx1 6 _ rfl;have z7:=af hx1 7 _ rfl;have n1:=dh w1 (.cells #[.int .i64 k,.string x,.string y,.int .i64 n,u,uz,.int .i64 a] 27);have Le:=dh (w1.alloc (.cells #[.int .i64 k,.string x,.string y,.int .i64 n,u,uz,.int .i64 a] 27)) (.cells #[.int .i64 k2,.string x2,.string y2,.int .i64 n2,u2,zR,.int .i64 a2] 27);have v1:=ah n1 (af hy1 1 _ rfl);have v2:=ah n1 (af hy1 2 _ rfl);have v3:=ah n1 (af hy1 3 _ rfl);have v4:=ah n1 (af hy1 4 _ rfl);have v5:=ah n1 (af hy1 5 _ rfl);have v6:=ah n1 (af hy1 6 _ rfl);have v7:=ah n1 (af hy1 7 _ rfl);have HN:=ae (az n1 Le);have zP:=ae (HE.out ((w1.alloc (.cells #[.int .i64 k,.string x,.string y,.int .i64 n,u,uz,.int .i64 a] 27)).alloc (.cells #[.int .i64 k2,.string x2,.string y2,.int .i64 n2,u2,zR,.int .i64 a2] 27)) (az HB1.out HN.out) w1.heap.size (w1.heap.size+1) (by rw [Le.block _ (by simp)];exact heap_alloc_new w1 _) (Bd _ _ (by simp)));clear hb1 HC HE hx1 hy1 HX HY HB z0 u0 n1 Le;cases A with
 | false =>
  have aU:Hid (false=R):=ae (by rw [HR.out];rfl);clear HR zP;go_wp2;go_ret;exact ⟨ba aU.out,HB1.out⟩
 | true =>
  have aU:Hid (E=R):=ae (by rw [HR.out];rfl);clear HR;go_wp2_with fail;refine Calls.mono (show Calls _ _ _ _ _ from zP.out) ?_;rintro e w2 ⟨rfl,hb2⟩;have HB2:=ae (az (az HB1.out HN.out) hb2);clear hb2 zP;go_wp2;go_ret;exact ⟨ba aU.out,HB2.out⟩
namespace Pz
theorem abP {pl:Bool} {dt:Nat} {c:Value} (h:wB dt c):nA pl dt c c=true:=by
 unfold nA;rw [Fp (fun x _=>?_),Fp (fun x hx=>?_)];simp
 ·unfold mW;rw [Jm false dt _ (h x hx)];simp
 ·simp
end Pz
end Go.Proofs.YtkdbgopgjbfhbaaGreatDoor
namespace Go.Proofs.YtkdbgopgjbfhbaaGreatDoor
open Go.RowKit
set_option linter.unusedVariables false
namespace Lx
theorem QC (y:ByteArray):∀l:List ByteArray,bN y l=true->y ∈ l
 | [],x=>by cases x
 | z :: l,x=>by
  rw [bN] at x;split at x
  ·rename_i e;rw [e];exact List.mem_cons_self ..
  ·exact List.mem_cons_of_mem _ (QC y l x)
theorem JW (u:ByteArray) (i j k:Nat) (h1:i+k<j) (h2:j<=u.size):bt (u.extract i j) k=bt u (i+k):=by
 unfold bt;rw [dif_pos (by rw [ByteArray.size_extract];omega),dif_pos (by omega)];simp [ByteArray.getElem_extract]
structure Ext (s u:ByteArray):Prop where
 lt:s.size<u.size
 Bc:∀i,i<s.size->bt u i=bt s i
 nl:bt u s.size=10
 ex:∀i j,j<=s.size->u.extract i j=s.extract i j
section
variable {s u:ByteArray} (h:Ext s u)
end
end Lx
namespace Lx
theorem PL {s:ByteArray} {i:Nat} {z:Int} (h:one s i=.error z):z=2\/z=110:=by
 unfold one at h
 repeat' split at h
 all_goals first|(injection h with h;omega)|cases h
theorem PN (s:ByteArray):∀(f g i:Nat) (acc:List Tk),s.size<=i+f->s.size<=i+g->dP s f i acc=dP s g i acc
 | 0,g,i,acc,hf,hg=>by rw [vJ s 0 i acc (by omega),vJ s g i acc (by omega)]
 | f+1,g,i,acc,hf,hg=>by
  rcases Nat.lt_or_ge i s.size with hl|hl
  ·obtain ⟨g,rfl⟩:∃k,g=k+1:=⟨g-1,by omega⟩;rw [dP,dP,if_pos hl,if_pos hl];cases ho:one s i with
   | error z=>rfl
   | ok r =>
    obtain ⟨k,x,n,e⟩:=r;have he:=yp hl ho;have hs:=Fa s false e;simp only;split
    ·rfl
    ·exact PN s f g _ _ (by omega) (by omega)
  ·rw [vJ s _ i acc (by omega),vJ s g i acc (by omega)]
def mU (m:Nat) (l:List Tk):List Tk:=l.map fun t=>⟨t.k,t.x,t.n,(m:Int)+t.a⟩
theorem YO (m:Nat) (l k:List Tk):mU m (l++k)=mU m l++mU m k:=by simp [mU]
theorem YM (m:Nat) (l:List Tk):(mU m l).length=l.length:=by simp [mU]
structure Sub (m:Nat) (t u:ByteArray):Prop where
 size:m+t.size=u.size
 ex:u.extract m u.size=t
section
variable {m:Nat} {t u:ByteArray} (h:Sub m t u)
theorem Qu (h:Sub m t u) (i:Nat):u.extract (m+i) u.size=t.extract i t.size:=by
 have hs:=h.size
 have:=yt u m i t.size (by omega)
 rw [h.ex,hs] at this;exact this.symm
theorem YN (h:Sub m t u) (c:Bool) {i:Nat} (hi:i<=t.size):sk u c (m+i)=m+sk t c i:=by
 have hs:=h.size;rw [<- JR u (m+i) (by omega) c,<- JR t i hi c,Qu h i,Nat.add_assoc]
theorem sub_one (h:Sub m t u) {i:Nat} (hi:i<t.size):one u (m+i)=Am m (one t i):=by
 have hs:=h.size;rw [I3 u (m+i) (by omega),I3 t i hi,Qu h i];cases one (t.extract i t.size) 0 with
 | error z=>rfl
 | ok r=>obtain ⟨k,x,n,e⟩:=r;simp [Am,Nat.add_assoc]
end
section
variable {s u:ByteArray} (h:Ext s u)
end
theorem Qv {y:ByteArray} (h:y.size=0):y=ByteArray.empty:=ByteArray.ext (Array.eq_empty_of_size_eq_zero h)
end Lx
namespace Lx
structure Loc (s u:ByteArray) (i e:Nat):Prop where
 le:i<=e
 es:e<=s.size
 eu:e-i<=u.size
 Bc:∀a,i+a<e->bt u a=bt s (i+a)
 ex:∀a b,i+b<=e->u.extract a b=s.extract (i+a) (i+b)
 Uk:e-i=u.size\/(e<s.size/\bt u (e-i)=bt s e)\/bl (bt u (e-i))=true
theorem I5 {c:Int} (h:bl c=true):c=9\/c=10\/c=13\/c=32:=by
 unfold bl at h;simp only [Bool.or_eq_true,beq_iff_eq] at h;omega
theorem Ul {c:Int} (h:bl c=true):pt c=false:=by
 rcases I5 h with rfl|rfl|rfl|rfl<;>rfl
theorem acO {c:Int} (h:bl c=true):dg c=false:=by
 rcases I5 h with rfl|rfl|rfl|rfl<;>rfl
section
variable {s u:ByteArray} {i e:Nat} (h:Loc s u i e)
theorem LF (h:Loc s u i e) (p:Int->Bool) (hb:∀c,bl c=true->p c=false) {f:Nat} (hf:i+f<=e) (he:en s p (i+f)=e):en u p f=e-i:=by
 have hle:=h.le;refine CY u p (by omega) h.eu (fun j hj hj'=>?_) (fun hl=>?_)
 ·rw [h.Bc j (by omega)];exact mR s p (i:=i+f) (by omega) (by omega)
 ·rcases h.Uk with hb'|⟨h1,h2⟩|h3
  ·omega
  ·rw [h2,<- he];exact qY s p (by omega)
  ·exact hb _ h3
theorem Um (h:Loc s u i e):∀(k f:Nat) (n:Int),i+f+k<=e->bG u k f n=bG s k (i+f) n
 | 0,_,_,_=>rfl
 | k+1,f,n,hk=>by rw [bG,bG,h.Bc f (by omega),Um h k (f+1) _ (by omega),Nat.add_assoc]
theorem acP (h:Loc s u i e) {f:Nat} {n:Int} (hf:i+f<=e) (hn:num s i (i+f)=some (n,e)):num u 0 f=some (n,e-i):=by
 have hle:=h.le
 have he:en s dg (i+f)=e:=by
  unfold num at hn;obtain ⟨V,hV⟩:∃V,(if i<i+f then -bG s (en s dg (i+f)-(i+f)) (i+f) 0 else bG s (en s dg (i+f)-(i+f)) (i+f) 0)=V:=⟨_,rfl⟩;rw [hV] at hn;split at hn
  ·cases hn
  ·split at hn
   ·injection hn with hn;injection hn
   ·cases hn
 have Un:=LF h dg (fun c=>acO) hf he;unfold num at hn ⊢;rw [he] at hn;rw [Un];have hvl:=Um h (e-(i+f)) f 0 (by omega);have hk:e-i-f=e-(i+f):=by omega
 rw [hk,hvl];by_cases hz:e=i+f
 ·rw [if_pos (.inl hz)] at hn;cases hn
 ·have hbt:bt u f=bt s (i+f):=h.Bc f (by omega);rw [hbt]
  have hsg:(if 0<f then -bG s (e-(i+f)) (i+f) 0 else bG s (e-(i+f)) (i+f) 0)=(if i<i+f then -bG s (e-(i+f)) (i+f) 0 else bG s (e-(i+f)) (i+f) 0):=by
   by_cases h0:0<f
   ·rw [if_pos h0,if_pos (by omega)]
   ·rw [if_neg h0,if_neg (by omega)]
  rw [hsg];obtain ⟨V,hV⟩:∃V,(if i<i+f then -bG s (e-(i+f)) (i+f) 0 else bG s (e-(i+f)) (i+f) 0)=V:=⟨_,rfl⟩;rw [hV] at hn ⊢;by_cases hc:e=i+f\/(1<e-(i+f)/\bt s (i+f)=48)\/10<e-(i+f)
  ·rw [if_pos hc] at hn;cases hn
  ·rw [if_neg hc] at hn;have hc':¬ (e-i=f\/(1<e-(i+f)/\bt s (i+f)=48)\/10<e-(i+f)):=fun x=>hc (by rcases x with x|x|x;exact .inl (by omega);exact .inr (.inl x);exact .inr (.inr x))
   rw [if_neg hc'];split at hn
   ·rename_i hi;rw [if_pos hi];injection hn with hn;injection hn with h1 h2;rw [h1]
   ·cases hn
end
end Lx
namespace Lx
theorem ad5 {x y:ByteArray} (hs:x.size=y.size) (hb:∀k,k<x.size->bt x k=bt y k):x=y:=by
 apply ByteArray.ext;apply Array.ext
 ·exact hs
 ·intro k h1 h2;have h:=hb k h1;unfold bt at h;rw [dif_pos (show k<x.size from h1),dif_pos (show k<y.size from h2)] at h;have h':(x[k]'h1).toNat=(y[k]'h2).toNat:=by omega
  exact UInt8.toNat.inj h'
theorem ad6:∀y ∈ signs,bl (bt y 1)=false:=fun y hy=>by
 have h:signs.all (fun y=>!bl (bt y 1))=true:=by decide
 simpa using List.all_eq_true.1 h y hy
section
variable {s u:ByteArray} {i e:Nat} (h:Loc s u i e)
theorem Yv (h:Loc s u i e) {k:Int} {x:ByteArray} {n:Int} (hi:i<s.size) (ho:one s i=.ok (k,x,n,e)):one u 0=.ok (k,x,n,e-i):=by
 have hend:=yp hi ho;have hb0:bt u 0=bt s i:=h.Bc 0 (by omega);have Un:=h.eu;unfold one at ho ⊢;rw [hb0];by_cases c1:sm (bt s i)=true\/cp (bt s i)=true
 ·rw [if_pos c1] at ho ⊢;split at ho
  ·cases ho
  ·rename_i h32;injection ho with ho;injection ho with e1 ho;injection ho with e2 ho;injection ho with e3 e4;have hen:=LF h pt (fun c=>Ul) (f:=0) (by omega) e4;rw [hen,h.ex 0 (e-i) (by omega),show i+(e-i)=e by omega,Nat.add_zero];rw [e4] at e1 e2 h32;rw [if_neg (show ¬ 32<e-i-0 by omega),e1,e2,e3]
 ·rw [if_neg c1] at ho ⊢;by_cases c2:bt s i=39
  ·rw [if_pos c2] at ho ⊢;split at ho
   ·cases ho
   ·rename_i hn;split at ho
    ·cases ho
    ·rename_i h32;injection ho with ho;injection ho with e1 ho;injection ho with e2 ho;injection ho with e3 e4;have hsm:sm (bt s (i+1))=true:=by cases x:sm (bt s (i+1));exact absurd (.inr x) hn;rfl
     have hne:i+1≠s.size:=fun x=>hn (.inl x)
     have hge:i+2<=e:=by
      have h1:=mh s pt (i+1+1);rw [<- oO s pt (by omega) (yo hsm),e4] at h1;omega
     have hb1:bt u (0+1)=bt s (i+1):=h.Bc 1 (by omega);have hen:=LF h pt (fun c=>Ul) (f:=1) (by omega) e4;have n1:¬ (0+1=u.size\/sm (bt u (0+1))=false):=by rw [hb1,hsm];rintro (x|x);omega;cases x
     rw [if_neg n1,Nat.zero_add,hen,h.ex 1 (e-i) (by omega),show i+(e-i)=e by omega];rw [e4] at e2 h32;rw [if_neg (show ¬ 32<e-i-1 by omega),e2,e3,<- e1]
  ·rw [if_neg c2] at ho ⊢;by_cases c3:bt s i=126\/dg (bt s i)=true
   ·rw [if_pos c3] at ho ⊢;obtain ⟨f,hf⟩:∃f,(if bt s i=126 then 0+1 else 0)=f:=⟨_,rfl⟩;have I4:(if bt s i=126 then i+1 else i)=i+f:=by rw [<- hf];split<;>omega
    rw [hf];rw [I4] at ho;cases Bw:num s i (i+f) with
    | none=>rw [Bw] at ho;cases ho
    | some r =>
     obtain ⟨n',e'⟩:=r;rw [Bw] at ho;injection ho with ho;injection ho with e1 ho;injection ho with e2 ho;injection ho with e3 e4;subst e4;have hfe:i+f<=e':=by have:=(Oy (s:=s) (a:=i) (f:=i+f) (by rw [<- hf];split<;>omega) Bw).1;omega
     rw [acP h hfe Bw,<- e1,<- e2,<- e3]
   ·rw [if_neg c3] at ho ⊢;by_cases c4:i+2<=s.size/\bN (s.extract i (i+2)) signs=true
    ·rw [if_pos c4] at ho;injection ho with ho;injection ho with e1 ho;injection ho with e2 ho;injection ho with e3 e4;have hx:=h.ex 0 2 (by omega);rw [Nat.add_zero] at hx;have c5:0+2<=u.size/\bN (u.extract 0 (0+2)) signs=true:=⟨by omega,by rw [Nat.zero_add,hx];exact c4.2⟩;rw [if_pos c5,Nat.zero_add,hx,e2,<- e1,<- e3,show e-i=2 by omega]
    ·rw [if_neg c4] at ho;split at ho
     ·rename_i c5;injection ho with ho;injection ho with e1 ho;injection ho with e2 ho;injection ho with e3 e4;have hx:=h.ex 0 1 (by omega);rw [Nat.add_zero] at hx
      have n5:¬ (0+2<=u.size/\bN (u.extract 0 (0+2)) signs=true):=fun y=>by
       have hm:=QC _ _ y.2;have hy1:2<=u.size:=y.1;have hb1:bt (u.extract 0 (0+2)) 1=bt u 1:=by rw [JW u 0 (0+2) 1 (by omega) y.1,Nat.zero_add]
       rcases h.Uk with hb|⟨h1,h2⟩|h3
       ·omega
       ·rw [show e-i=1 by omega] at h2;refine c4 ⟨by omega,?_⟩
        have he2:u.extract 0 (0+2)=s.extract i (i+2):=by
         refine ad5 (by rw [ByteArray.size_extract,ByteArray.size_extract];omega) fun k hk=>?_;rw [ByteArray.size_extract] at hk;rw [JW u 0 (0+2) k (by omega) y.1,JW s i (i+2) k (by omega) (by omega),Nat.zero_add];rcases (show k=0\/k=1 by omega) with rfl|rfl
         ·rw [hb0];rfl
         ·rw [h2,<- e4]
        rw [<- he2];exact y.2
       ·rw [show e-i=1 by omega,<- hb1,ad6 _ hm] at h3;cases h3
      have c6:0+1<=u.size/\bN (u.extract 0 (0+1)) signs=true:=⟨by omega,by rw [Nat.zero_add,hx];exact c5.2⟩;rw [if_neg n5,if_pos c6,Nat.zero_add,hx,e2,<- e1,<- e3,show e-i=1 by omega]
     ·cases ho
end
end Lx
namespace Lx
def Lk:List Tk->List Tk->Prop
 | [],[]=>True
 | x :: l,y :: k=>x.k=y.k/\x.x=y.x/\x.n=y.n/\Lk l k
 | _,_=>False
theorem Lk.mU (m:Nat):∀ {l k:List Tk},Lk l k->Lk l (mU m k)
 | [],[],_=>trivial
 | x :: l,y :: k,h=>⟨h.1,h.2.1,h.2.2.1,Lk.mU m h.2.2.2⟩
theorem Lk.len:∀ {l k:List Tk},Lk l k->l.length=k.length
 | [],[],_=>rfl
 | x :: l,y :: k,h=>by rw [List.length_cons,List.length_cons,Lk.len h.2.2.2]
theorem Lk.at_:∀ {l k:List Tk},Lk l k->∀(i:Nat) (x y:Tk),l[i]?=some x->k[i]?=some y->x.k=y.k/\x.x=y.x/\x.n=y.n
 | [],[],_,i,x,y,hx,_=>by simp at hx
 | a :: l,b :: k,h,0,x,y,hx,hy=>by simp at hx hy;subst hx;subst hy;exact ⟨h.1,h.2.1,h.2.2.1⟩
 | a :: l,b :: k,h,i+1,x,y,hx,hy=>Lk.at_ h.2.2.2 i x y (by simpa using hx) (by simpa using hy)
theorem PK (s:ByteArray):∀(f i:Nat) (acc:List Tk),(dP s f i acc).2.2=0->acc.length<=(dP s f i acc).1.length
 | 0,i,acc,_=>Nat.le_refl _
 | f+1,i,acc,h=>by
  rw [dP] at h ⊢;split at h
  ·rename_i hi;rw [if_pos hi];cases ho:one s i with
   | error z=>rw [ho] at h;simp only at h;rcases PL ho with e|e<;>omega
   | ok r =>
    obtain ⟨k,x,n,e⟩:=r;rw [ho] at h;simp only at h ⊢;by_cases h4:acc.length=4096
    ·rw [if_pos h4] at h;cases h
    ·rw [if_neg h4] at h ⊢
     have:=PK s f _ _ h
     rw [List.length_append] at this;simp at this;omega
  ·rename_i hi;rw [if_neg hi];exact Nat.le_refl _
theorem PM {m:Nat} {t u:ByteArray} (h:Sub m t u):∀(f i:Nat) (acc l0:List Tk),(dP t f i acc).2.2=0->l0.length+(dP t f i acc).1.length<=4096->dP u f (m+i) (l0++mU m acc)=(l0++mU m (dP t f i acc).1,0,0)
 | 0,i,acc,l0,_,_=>by rw [dP,dP]
 | f+1,i,acc,l0,hz,hb=>by
  have hs:=h.size;rcases Nat.lt_or_ge i t.size with hl|hl
  ·have e1:dP t (f+1) i acc=(match one t i with
    | .error z=>([],(i:Int),z)
    | .ok (k,x,n,e)=>if acc.length=4096 then ([],(i:Int),3) else dP t f (sk t false e) (acc++[⟨k,x,n,i⟩]))   := by rw [dP,if_pos hl];cases one t i<;>rfl
   rw [dP,if_pos (show m+i<u.size by omega),sub_one h hl];rw [e1] at hz hb ⊢;cases ho:one t i with
   | error z=>rw [ho] at hz;simp only at hz;rcases PL ho with e|e<;>omega
   | ok r =>
    obtain ⟨k,x,n,e⟩:=r;rw [ho] at hz hb;simp only at hz hb ⊢;have he:=yp hl ho;by_cases h4:acc.length=4096
    ·rw [if_pos h4] at hz;cases hz
    ·rw [if_neg h4] at hz hb ⊢;have hal:=PK t f _ _ hz;rw [List.length_append] at hal;simp at hal;simp only [Am];rw [if_neg (show ¬ (l0++mU m acc).length=4096 by rw [List.length_append,YM];omega),YN h false he.2]
     have:=PM h f (sk t false e) (acc++[⟨k,x,n,i⟩]) l0 hz hb
     rw [YO,<- List.append_assoc] at this;rw [<- this];simp [mU]
  ·rw [vJ u _ _ _ (by omega),vJ t _ _ _ (by omega)]
theorem sub_self (s:ByteArray):Sub 0 s s:=⟨Nat.zero_add _,by simp⟩
def AV (u:ByteArray) (K:List Tk):Prop:=dP u u.size 0 []=(K,0,0)
theorem Yy {u R:ByteArray} {m e:Nat} {k:Int} {x:ByteArray} {n:Int} {K:List Tk} (h0:0<u.size) (ho:one u 0=.ok (k,x,n,e)) (hsk:sk u false e=m) (hs:Sub m R u) (hK:AV R K) (hl:K.length+1<=4096):AV u (⟨k,x,n,0⟩ :: mU m K):=by
 unfold AV at *;have hsz:=hs.size;have hend:=yp h0 ho;have hge:=Fa u false e;obtain ⟨f,hf⟩:∃f,u.size=f+1:=⟨u.size-1,by omega⟩
 have e1:dP u u.size 0 []=dP u f m [⟨k,x,n,0⟩]:=by
  rw [hf,dP,if_pos h0,ho];simp only;rw [if_neg (by decide),hsk];rfl
 have hR:dP R f 0 []=(K,0,0):=by rw [PN R f R.size 0 [] (by omega) (by omega)];exact hK
 have h2:=PM hs f 0 [] [⟨k,x,n,0⟩] (by rw [hR]) (by rw [hR];simp;omega);rw [hR] at h2;rw [e1];exact h2
theorem PD {u:ByteArray} {i:Nat} (hi:i<u.size) (h1:bl (bt u i)=false) (h2:bt u i≠35):sk u false i=i:=by
 have h10:bt u i≠10:=fun e=>by rw [e] at h1;cases h1
 rw [qZ u false hi,if_neg h10,if_neg (by decide),if_neg h2,h1,if_neg (by decide)]
end Lx
end Go.Proofs.YtkdbgopgjbfhbaaGreatDoor
namespace Go.Proofs.YtkdbgopgjbfhbaaGreatDoor
open Go.RowKit Lx Pz bb
set_option linter.unusedVariables false
namespace Pz
section
variable {α β:Type} {P:α->β->Prop}
theorem xz:∀ {l:List α} {k:List β},l2 P l k->l.length=k.length
 | [],[],_=>rfl
 | a :: l,b :: k,h=>by rw [List.length_cons,List.length_cons,xz h.2]
 | [],_ :: _,h=>h.elim
 | _ :: _,[],h=>h.elim
theorem uX {f:α->Bool} {g:β->Bool} (hf:∀a b,P a b->f a=g b):∀ {l:List α} {k:List β},l2 P l k->l.any f=k.any g
 | [],[],_=>rfl
 | a :: l,b :: k,h=>by rw [List.any_cons,List.any_cons,hf a b h.1,uX hf h.2]
 | [],_ :: _,h=>h.elim
 | _ :: _,[],h=>h.elim
theorem KR:∀ {l:List α} {k:List β},l2 P l k->∀b ∈ k,∃a ∈ l,P a b
 | [],[],_,b,hb=>by cases hb
 | a :: l,b :: k,h,c,hc=>by
  rcases List.mem_cons.1 hc with rfl|hc
  ·exact ⟨a,List.Mem.head _,h.1⟩
  ·obtain ⟨a',h1,h2⟩:=KR h.2 c hc;exact ⟨a',List.Mem.tail _ h1,h2⟩
 | [],_ :: _,h,_,_=>h.elim
 | _ :: _,[],h,_,_=>h.elim
end
theorem GG {P:Value->Value->Prop} {f:Value->Value->Bool}:∀ {l k:List Value},l2 P l k->(∀a ∈ l,∀b,P a b->f a b=true)->dF f l k=true
 | [],[],_,_=>rfl
 | a :: l,b :: k,h,hf=>by
  unfold dF;rw [hf a (List.Mem.head _) b h.1,GG h.2 (fun x hx=>hf x (List.Mem.tail _ hx))];rfl
 | [],_ :: _,h,_=>h.elim
 | _ :: _,[],h,_=>h.elim
theorem GH {P:Value->Value->Prop} {f:Nat->Value->Nat} (hf:∀a b,P a b->∀c,f c a=f c b):∀ {l k:List Value} (c:Nat),l2 P l k->dY f c l=dY f c k
 | [],[],_,_=>rfl
 | a :: l,b :: k,c,h=>by
  unfold dY;rw [hf a b h.1 c,GH hf _ h.2]
 | [],_ :: _,_,h=>h.elim
 | _ :: _,[],_,h=>h.elim
section
variable {Pl:Int->Int->Prop}
theorem AL.out {a b:Value} (h:AL Pl a b):∃k x y n es ps es' ps' u v,a=Pz.nd k x y n es ps u/\b=Pz.nd k x y n es' ps' v/\Pl u v/\l2 (AL Pl) es es'/\l2 (AL Pl) ps ps':=by
 obtain ⟨d,hd⟩:=h;cases d with
 | zero=>exact hd.elim
 | succ d =>
  obtain ⟨k,x,y,n,es,ps,es',ps',u,v,h1,h2,hp,h3,h4⟩:=hd;exact ⟨k,x,y,n,es,ps,es',ps',u,v,h1,h2,hp,xA (fun p q h=>⟨d,h⟩) h3,xA (fun p q h=>⟨d,h⟩) h4⟩
theorem KT:∀(m:Nat) (a b:Value),AL Pl a b->fit m a->fit m b
 | 0,a,b,h,hf=>by
  obtain ⟨k,x,y,n,es,ps,es',ps',u,v,rfl,rfl,_,h1,h2⟩:=h.out;obtain ⟨_,e1,e2⟩:=hf;rw [ko] at e1;rw [p8] at e2;subst e1 e2;refine ⟨⟨_,_,_,_,_,_,_,rfl⟩,?_,?_⟩
  ·exact List.length_eq_zero_iff.1 (xz h1).symm
  ·exact List.length_eq_zero_iff.1 (xz h2).symm
 | m+1,a,b,h,hf=>by
  obtain ⟨k,x,y,n,es,ps,es',ps',u,v,rfl,rfl,_,h1,h2⟩:=h.out;obtain ⟨_,e1,e2⟩:=hf;refine ⟨⟨_,_,_,_,_,_,_,rfl⟩,?_,?_⟩
  ·intro q hq;obtain ⟨p,hp,hpq⟩:=KR h1 q hq;exact KT m p q hpq (e1 p hp)
  ·intro q hq;obtain ⟨p,hp,hpq⟩:=KR h2 q hq;exact KT m p q hpq (e2 p hp)
theorem SE {k:Int} {x y:ByteArray} {n:Int} {es ps es' ps':List Value} {u v:Int}:sQ false (nd k x y n es ps u) (nd k x y n es' ps' v)=true:=by
 show (((k == k) && (decide (x=x) && (decide (y=y) && ((n == n) && true)))):Bool)=true;simp
theorem KU:∀(m:Nat) (a b:Value),AL Pl a b->fit m a->sm false m a b=true
 | 0,a,b,h,hf=>by
  obtain ⟨k,x,y,n,es,ps,es',ps',u,v,rfl,rfl,_,h1,h2⟩:=h.out;obtain ⟨_,e1,e2⟩:=hf;rw [ko] at e1;rw [p8] at e2;subst e1 e2;obtain rfl:=List.length_eq_zero_iff.1 (xz h1).symm;obtain rfl:=List.length_eq_zero_iff.1 (xz h2).symm;unfold sm;rw [SE];rfl
 | m+1,a,b,h,hf=>by
  obtain ⟨k,x,y,n,es,ps,es',ps',u,v,rfl,rfl,_,h1,h2⟩:=h.out;obtain ⟨_,e1,e2⟩:=hf;unfold sm;rw [SE,ko,ko,p8,p8,Ao,Ao,GG h1 (fun p hp q hq=>KU m p q hq (e1 p hp)),GG h2 (fun p hp q hq=>KU m p q hq (e2 p hp))];rfl
theorem SF:∀(m:Nat) (a b:Value),AL Pl a b->kg m a=kg m b
 | 0,a,b,h=>rfl
 | m+1,a,b,h=>by
  obtain ⟨k,x,y,n,es,ps,es',ps',u,v,rfl,rfl,_,h1,h2⟩:=h.out;unfold kg;rw [ko,ko,vH,vH,xz h1,uX (fun p q hq=>SF m p q hq) h1]
theorem SG:∀(m:Nat) (a b:Value),AL Pl a b->kO m a=kO m b
 | 0,a,b,h=>rfl
 | m+1,a,b,h=>by
  obtain ⟨k,x,y,n,es,ps,es',ps',u,v,rfl,rfl,_,h1,h2⟩:=h.out;unfold kO;rw [ko,ko,p8,p8,vH,vH,xz h1,uX (fun p q hq=>SG m p q hq) h1,uX (fun p q hq=>SF m p q hq) h2]
theorem SH:∀(m:Nat) (a b:Value),AL Pl a b->∀c,fU m c a=fU m c b
 | 0,a,b,h,c=>rfl
 | m+1,a,b,h,c=>by
  obtain ⟨k,x,y,n,es,ps,es',ps',u,v,rfl,rfl,_,h1,h2⟩:=h.out;unfold fU;rw [ko,ko,GH (fun p q hq=>SH m p q hq) _ h1]
theorem SI:∀(m:Nat) (a b:Value),AL Pl a b->∀c,ij m c a=ij m c b
 | 0,a,b,h,c=>rfl
 | m+1,a,b,h,c=>by
  obtain ⟨k,x,y,n,es,ps,es',ps',u,v,rfl,rfl,_,h1,h2⟩:=h.out;unfold ij;rw [ko,ko,p8,p8,GH (fun p q hq=>SI m p q hq) _ h1,GH (fun p q hq=>SH m p q hq) _ h2]
theorem SJ:∀(m:Nat) (l k:List Value),l2 (AL Pl) l k->iO m l=iO m k
 | 0,l,k,h=>uX (fun _ _ _=>rfl) h
 | m+1,l,k,h=>by
  unfold iO;refine uX (fun p q hq=>?_) h;obtain ⟨k,x,y,n,es,ps,es',ps',u,v,rfl,rfl,_,h1,h2⟩:=hq.out;rw [ko,ko];exact SJ m es es' h1
theorem SK:∀(m:Nat) (a b:Value),AL Pl a b->lG m a=lG m b
 | 0,a,b,h=>rfl
 | m+1,a,b,h=>by
  obtain ⟨k,x,y,n,es,ps,es',ps',u,v,rfl,rfl,_,h1,h2⟩:=h.out;unfold lG;rw [ko,ko,p8,p8,uX (fun p q hq=>SK m p q hq) h1,SJ m ps ps' h2]
theorem abM {a b:Value} (h:rV Pl a b):yj a=yj b:=by
 obtain ⟨x,ps,cs,u,v,rfl,rfl,_⟩:=h;rfl
theorem abN {m:Nat} {a b:Value} (h:rV Pl a b):tO m a=tO m b:=by
 obtain ⟨x,ps,cs,u,v,rfl,rfl,_⟩:=h;rfl
theorem abO {dt:Nat} {a b:Value} (hf:wB dt a) (h:rV Pl a b):nA false dt a b=true:=by
 obtain ⟨x,ps,cs,u,v,rfl,rfl,_⟩:=h;exact abP (pl:=false) hf
theorem abQ {d:Nat} {ds ks:List Value} {a b:Value} (h:l2 (rV Pl) ds ks) (h':AL Pl a b):kS d ds a=kS d ks b:=by
 unfold kS;rw [xz h,SI _ a b h' 0,uX (fun p q hq=>abM hq) h,SG _ a b h']
theorem abR {m:Nat} {ds ks:List Value} {a b:Value} (h:l2 (rV Pl) ds ks) (h':AL Pl a b):oo m ds a=oo m ks b:=by
 unfold oo;rw [uX (fun p q hq=>abN hq) h,SK _ a b h']
theorem Z4 {d dt:Nat} {ds ks:List Value} {a b:Value} (h:l2 (rV Pl) ds ks) (h':AL Pl a b) (hf:fit d a) (hd:∀c ∈ ds,wB dt c):D8 false d dt ds ks a b=true:=by
 unfold D8;rw [KU d a b h' hf,GG h (fun p hp q hq=>abO (hd p hp) hq)];rfl
end
abbrev D9:Int->Int->Prop:=fun _ _=>True
theorem abS {L K:List Tk} (en en':Int) (h:Lk L K):fH D9 L en K en' 0:=by
 have hl:=h.len;refine ⟨fun i hi=>?_,by omega⟩;rw [Nat.zero_add];by_cases hlt:i<L.length
 ·have h1:L[i]?=some L[i]:=List.getElem?_eq_getElem hlt;have h2:K[i]?=some (K[i]'(by omega)):=List.getElem?_eq_getElem (by omega);rw [Bp L en h1,Bp K en' h2];have h3:=h.at_ i _ _ h1 h2;exact .inl ⟨h3.1,h3.2.1,h3.2.2,trivial⟩
 ·rw [GF L en (by omega),GF K en' (by omega)];exact .inr ⟨rfl,⟨show (0:Int)≠1 by decide,show (0:Int)≠2 by decide,show (0:Int)≠3 by decide,show (0:Int)≠4 by decide⟩,fun s _=>KV rfl⟩
theorem abT {L K:List Tk} {en en':Int} (h:Lk L K) {ds:List Value} {t:Value} {j:Nat} (hp:kz L en=.ok ((ds,t),j)):∃ds' t',kz K en'=.ok ((ds',t'),j)/\l2 (rV D9) ds ds'/\AL D9 t t':=by
 have hA:=abS en en' h;have hl:=h.len;unfold kz zw at hp ⊢;obtain ⟨z,ee⟩|⟨ds1,ds',j1,ee,ff,h1,h2,hq⟩:=Sm.cs (Sm.mG hA (L.length+1) (K.length+1) 0 [] [] (Nat.zero_le _) (by omega) (by omega) trivial)
 ·rw [ee] at hp;cases hp
 ·rw [Nat.zero_add,Nat.zero_add] at ff;rw [ee] at hp;rw [ff];dsimp only at hp ⊢;unfold Bn at hp ⊢;obtain ⟨z,ee⟩|⟨t1,t',j2,ee,ff,h3,h4,hq2⟩:=Sm.cs (Sm.fR hA (L.length+1) (K.length+1) j1 h2 (by omega))
  ·rw [ee] at hp;cases hp
  ·rw [Nat.zero_add,Nat.zero_add] at ff;rw [ee] at hp;rw [ff];dsimp only at hp ⊢;by_cases hj:j2<L.length
   ·rw [if_pos hj] at hp;cases hp
   ·rw [if_neg hj] at hp;rw [if_neg (by omega)];injection hp with hp;injection hp with hp e3;injection hp with e1 e2;subst e1 e2 e3;exact ⟨_,_,rfl,hq,hq2⟩
theorem Says.alike {s u:ByteArray} {ds:List Value} {t:Value} (hs:Says s (.ok (ds,t))) (hK:Lk (lx s).1 (lx u).1) (h0:(lx u).2.2=0):∃ds' t',Says u (.ok (ds',t'))/\l2 (rV D9) ds ds'/\AL D9 t t':=by
 obtain ⟨j,d,hp,hf,hm,hd⟩:=hs.good;obtain ⟨ds',t',hp',hq,hq2⟩:=abT (en':=u.size) hK hp;refine ⟨ds',t',?_,hq,hq2⟩;unfold Says;rw [if_neg (by simpa using h0),hp'];refine ⟨d,KT d t t' hq2 hf,?_⟩;unfold ni;rw [<- abQ hq hq2,<- abR hq hq2,hm,hd];rfl
end Pz
end Go.Proofs.YtkdbgopgjbfhbaaGreatDoor
namespace Go.Proofs.YtkdbgopgjbfhbaaGreatDoor
open Go.RowKit
set_option linter.unusedVariables false
namespace Lx
theorem Lk.refl:∀(l:List Tk),Lk l l
 | []=>trivial
 | x :: l=>⟨rfl,rfl,rfl,Lk.refl l⟩
theorem wo (x y:ByteArray) (k:Nat):bt (x++y) k=if k<x.size then bt x k else bt y (k-x.size):=by
 unfold bt;by_cases h:k<x.size
 ·rw [if_pos h,dif_pos (by simp;omega),dif_pos h,ByteArray.getElem_append_left h]
 ·rw [if_neg h];by_cases h2:k-x.size<y.size
  ·rw [dif_pos (by simp;omega),dif_pos h2,ByteArray.getElem_append_right (by omega)]
  ·rw [dif_neg (by simp;omega),dif_neg h2]
end Lx
namespace Lx
theorem Yu (x y:ByteArray) (a b:Nat) (h:b<=x.size):(x++y).extract a b=x.extract a b:=by
 rw [ByteArray.extract_append,Qv (y:=y.extract (a-x.size) (b-x.size)) (by rw [ByteArray.size_extract];omega)];simp
theorem acy (x y:ByteArray):(x++y).extract x.size (x++y).size=y:=by
 rw [ByteArray.extract_append,ByteArray.size_append,Qv (y:=x.extract x.size (x.size+y.size)) (by rw [ByteArray.size_extract];omega),Nat.sub_self,Nat.add_sub_cancel_left];simp
theorem Yx (x y:ByteArray):Sub x.size y (x++y):=⟨by simp,acy x y⟩
theorem Yw {u:ByteArray} (h:u.size=0):AV u []:=by unfold AV;rw [h];rfl
theorem FP (s:ByteArray):∀(f i:Nat) (acc:List Tk),acc.length<=4096->(dP s f i acc).1.length<=4096
 | 0,i,acc,h=>h
 | f+1,i,acc,h=>by
  rw [dP];split
  ·split
   ·exact Nat.zero_le _
   ·split
    ·exact Nat.zero_le _
    ·exact FP s f _ _ (by rw [List.length_append];simp;omega)
  ·exact h
end Lx
namespace Lx
theorem OG:∀y ∈ signs,bl (bt y 0)=false/\bt y 0≠35:=fun y hy=>by
 have h:signs.all (fun y=>!bl (bt y 0) && bt y 0 != 35)=true:=by decide
 have:=List.all_eq_true.1 h y hy
 simpa using this
theorem OH (s:ByteArray) (n:Nat) (hn:0<n) (h0:0<s.size):bt (s.extract 0 n) 0=bt s 0:=by
 unfold bt;rw [dif_pos (by rw [ByteArray.size_extract];omega),dif_pos h0];simp [ByteArray.getElem_extract]
theorem XA {s:ByteArray} (h0:0<s.size) {r:Int × ByteArray × Int × Nat} (h:one s 0=.ok r):bl (bt s 0)=false/\bt s 0≠35:=by
 by_cases hb:bl (bt s 0)=true\/bt s 0=35
 ·exfalso
  have hc:∀c:Int,bl c=true\/c=35->sm c=false/\cp c=false/\c≠39/\c≠126/\dg c=false:=by
   intro c hc;rcases hc with hc|rfl
   ·rcases I5 hc with rfl|rfl|rfl|rfl<;>decide
   ·decide
  obtain ⟨k1,k2,k3,k4,k5⟩:=hc _ hb;unfold one at h;rw [if_neg (by rw [k1,k2];rintro (h|h)<;>cases h),if_neg k3,if_neg (by rw [k5];rintro (h|h);exact k4 h;cases h)] at h
  split at h
  ·rename_i hs
   have:=OG _ (Aq hs.2)
   rw [Nat.zero_add,OH s 2 (by decide) h0] at this;rcases hb with hb|hb
   ·rw [this.1] at hb;cases hb
   ·exact this.2 hb
  ·split at h
   ·rename_i hs
    have:=OG _ (Aq hs.2)
    rw [Nat.zero_add,OH s 1 (by decide) h0] at this;rcases hb with hb|hb
    ·rw [this.1] at hb;cases hb
    ·exact this.2 hb
   ·cases h
 ·refine ⟨?_,fun e=>hb (.inr e)⟩;cases hbl:bl (bt s 0);rfl;exact absurd (.inl hbl) hb
theorem OI {t:Tk} (h:lU t=true):0<(fT t).size/\one (fT t) 0=.ok (t.k,t.x,t.n,(fT t).size):=by
 have:yx (iS t.k t.x t.n) t.k t.x t.n=true:=by rw [XB];exact h
 exact Ar.1 this
end Lx
end Go.Proofs.YtkdbgopgjbfhbaaGreatDoor
namespace Go.Proofs.YtkdbgopgjbfhbaaGreatDoor
open Go.RowKit Lx Pz bb
set_option linter.unusedVariables false
namespace Lx
abbrev ky:ByteArray:=⟨#[32,35,120,10]⟩
def spread:List Tk->ByteArray
 | []=>⟨#[]⟩
 | t :: l=>fT t++(ky++spread l)
theorem Yp (x:ByteArray):x++(⟨#[]⟩:ByteArray)=x:=by apply ByteArray.ext;apply Array.ext';simp [ByteArray.data_append]
theorem Py (t:Tk):∀l:List Tk,spread (l++[t])=spread l++(fT t++ky)
 | []=>by
  show fT t++(ky++⟨#[]⟩)=⟨#[]⟩++(fT t++ky);rw [Yp];apply ByteArray.ext;apply Array.ext';simp [ByteArray.data_append]
 | u :: l=>by
  show fT u++(ky++spread (l++[t]))=(fT u++(ky++spread l))++(fT t++ky);rw [Py t l,ByteArray.append_assoc,ByteArray.append_assoc]
theorem Jn {t:Tk} {l:List Tk} (h:lU t=true):0<(spread (t :: l)).size/\bl (bt (spread (t :: l)) 0)=false/\bt (spread (t :: l)) 0≠35:=by
 obtain ⟨h0,ho⟩:=OI h;have hf:=XA h0 ho;rw [spread];refine ⟨by rw [ByteArray.size_append];omega,?_⟩;rw [wo,if_pos h0];exact hf
theorem Yq {W R:ByteArray} (hR:R.size=0\/(0<R.size/\bl (bt R 0)=false/\bt R 0≠35)):sk (W++(ky++R)) false W.size=W.size+4:=by
 obtain ⟨u,hu⟩:∃u,u=W++(ky++R):=⟨_,rfl⟩;have hs1:(ky++R:ByteArray).size=4+R.size:=by rw [ByteArray.size_append];rfl
 have hsz:u.size=W.size+(4+R.size):=by rw [hu,ByteArray.size_append,hs1]
 have hb:∀a,a<4->bt u (W.size+a)=bt ky a:=fun a ha=>by
  rw [hu,wo,if_neg (by omega),show W.size+a-W.size=a by omega,wo,if_pos (by show a<4;exact ha)]
 have b0:bt u W.size=32:=hb 0 (by decide);have b1:bt u (W.size+1)=35:=hb 1 (by decide);have b2:bt u (W.size+1+1)=120:=hb 2 (by decide);have b3:bt u (W.size+1+1+1)=10:=hb 3 (by decide);rw [<- hu];rw [qZ u false (by omega),b0,if_neg (by decide),if_neg (by decide),if_neg (by decide),if_pos (by decide)];rw [qZ u false (by omega),b1,if_neg (by decide),if_neg (by decide),if_pos rfl];rw [qZ u true (by omega),b2,if_neg (by decide),if_pos rfl];rw [qZ u true (by omega),b3,if_pos rfl];rcases hR with hR|⟨h0,h1,h2⟩
 ·exact AU _ _ (by omega)
 ·have hbR:bt u (W.size+4)=bt R 0:=by
   rw [hu,wo,if_neg (by omega),show W.size+4-W.size=4 by omega,wo,if_neg (by decide)];rfl
  exact PD (by omega) (by rw [show W.size+1+1+1+1=W.size+4 from rfl,hbR];exact h1) (by rw [show W.size+1+1+1+1=W.size+4 from rfl,hbR];exact h2)
theorem Yr {W R:ByteArray} {k:Int} {x:ByteArray} {n:Int} (h0:0<W.size) (ho:one W 0=.ok (k,x,n,W.size)):one (W++(ky++R)) 0=.ok (k,x,n,W.size):=by
 have hsz:(W++(ky++R):ByteArray).size=W.size+(4+R.size):=by rw [ByteArray.size_append,ByteArray.size_append];rfl
 have Yt:bt (W++(ky++R)) W.size=32:=by
  rw [wo,if_neg (by omega),Nat.sub_self,wo,if_pos (by decide)];rfl
 have hloc:Loc W (W++(ky++R)) 0 W.size:=by
  refine ⟨Nat.zero_le _,Nat.le_refl _,by omega,fun a ha=>?_,fun a b hb=>?_,.inr (.inr ?_)⟩
  ·rw [wo,if_pos (by omega),Nat.zero_add]
  ·rw [Yu _ _ _ _ (by omega),Nat.zero_add,Nat.zero_add]
  ·rw [Nat.sub_zero,Yt];rfl
 have Ay:=Yv hloc h0 ho;rw [Nat.sub_zero] at Ay;exact Ay
theorem PF:∀(l:List Tk),(∀t ∈ l,lU t=true)->l.length<=4096->∃K,AV (spread l) K/\Lk l K
 | [],_,_=>⟨[],Yw rfl,trivial⟩
 | t :: l,h,hl=>by
  obtain ⟨h0,ho⟩:=OI (h t (List.mem_cons_self ..));obtain ⟨K,hK,hLk⟩:=PF l (fun x hx=>h x (List.mem_cons_of_mem _ hx)) (by simp only [List.length_cons] at hl;omega)
  have hR:(spread l).size=0\/(0<(spread l).size/\bl (bt (spread l) 0)=false/\bt (spread l) 0≠35):=by
   cases l with
   | nil=>exact .inl rfl
   | cons u l=>exact .inr (Jn (h u (List.mem_cons_of_mem _ (List.mem_cons_self ..))))
  have yJ:=hLk.len
  have hsub:Sub ((fT t).size+4) (spread l) (fT t++(ky++spread l)):=by
   have:=Yx (fT t++ky) (spread l)
   rw [ByteArray.append_assoc] at this;rw [show (fT t).size+4=(fT t++ky:ByteArray).size by rw [ByteArray.size_append];rfl];exact this
  refine ⟨_,Yy (Jn (h t (List.mem_cons_self ..))).1 (Yr h0 ho) (Yq hR) hsub hK (by simp only [List.length_cons] at hl yJ;omega),rfl,rfl,rfl,hLk.mU _⟩
theorem Yz {l:List Tk} (h:∀t ∈ l,lU t=true) (hl:l.length<=4096) (hz:(spread l).size<=8192):(lx (spread l)).2.2=0/\Lk l (lx (spread l)).1:=by
 obtain ⟨K,hK,hLk⟩:=PF l h hl
 have h0:sk (spread l) false 0=0:=by
  cases l with
  | nil=>exact AU _ _ (by decide)
  | cons t l =>
   obtain ⟨h0,h1,h2⟩:=Jn (l:=l) (h t (List.mem_cons_self ..));exact PD h0 h1 h2
 have:lx (spread l)=(K,0,0):=by
  unfold lx;rw [if_neg (by omega),h0];exact hK
 rw [this];exact ⟨rfl,hLk⟩
end Lx
end Go.Proofs.YtkdbgopgjbfhbaaGreatDoor
