/- Texts that the claim needs. -/
import Derived.Test.YtkdbgopgjbfhbaaGreatDoorQPW39
import Derived.Test.YtkdbgopgjbfhbaaGreatDoorQPW0
import Derived.Test.YtkdbgopgjbfhbaaGreatDoorQPW35
import Derived.Test.YtkdbgopgjbfhbaaGreatDoorQPW36
namespace Go.Proofs.YtkdbgopgjbfhbaaGreatDoor
open Go.RowKit Lx Pz bq
set_option linter.unusedVariables false
set_option maxRecDepth 100000
set_option maxHeartbeats 8000000
namespace Pz
theorem row_one {d:Nat} {w:World} {t:Value} {cs:Array Value} {b:Nat} (hb:w.heap[b]?=some (.cells cs 27 (0,0))) (h:ji 0 d w t (.agg cs)):mf 0 (.slice (some ⟨b,0,none⟩) 1 1) [t] w:=by
 obtain ⟨e,he⟩:=D6 (b:=b) (o:=0) ⟨d,h⟩ (Nat.zero_le b) (fun j u hu=>ak hb _ u (by rw [Nat.zero_add];exact hu))
 exact ⟨e,by simp,.inr ⟨b,0,1,rfl,fun i x hx=>by
  match i,hx with
  | 0,hx=>injection hx with hx;subst hx;simpa using he⟩⟩
end Pz
theorem Te (pl:Bool) (m dt:Nat) (ds ks:List Value) (t s v z:Value) (w:World) (hf:fit m t) (Tn:∀c ∈ ds,wN dt c) (h:lD 0 (ds,t) v w) (h2:lD 0 (ks,s) z w):Calls Tryz.prog 12 #[v,z,.bool pl] w fun e w'=>e=.returned (.bool (D9 pl m dt ds ks t s))/\Below w.heap.size w w':=by
 obtain ⟨uD,k,x,y,n,u,uz,a,rfl,hD,hM⟩:=h;obtain ⟨GX,k2,x2,y2,n2,u2,Ai,a2,rfl,hD2,hM2⟩:=h2;obtain ⟨W,hW⟩:∃W,W=(w.alloc (.cells #[uD,.int .i64 k,.string x,.string y,.int .i64 n,u,uz,.int .i64 a] 29)).alloc (.cells #[GX,.int .i64 k2,.string x2,.string y2,.int .i64 n2,u2,Ai,.int .i64 a2] 29):=⟨_,rfl⟩;have hb1:=dF w (.cells #[uD,.int .i64 k,.string x,.string y,.int .i64 n,u,uz,.int .i64 a] 29);have hb2:=dF (w.alloc (.cells #[uD,.int .i64 k,.string x,.string y,.int .i64 n,u,uz,.int .i64 a] 29)) (.cells #[GX,.int .i64 k2,.string x2,.string y2,.int .i64 n2,u2,Ai,.int .i64 a2] 29);have HB:Hid (Below w.heap.size w W):=ae (by rw [hW];exact aB hb1 hb2);have HX:Hid (W.heap[w.heap.size]?=some (.cells #[uD,.int .i64 k,.string x,.string y,.int .i64 n,u,uz,.int .i64 a] 29 (0,0))):=ae (by rw [hW,hb2.block _ (by simp)];exact heap_alloc_new w _);have HY:Hid (W.heap[w.heap.size+1]?=some (.cells #[GX,.int .i64 k2,.string x2,.string y2,.int .i64 n2,u2,Ai,.int .i64 a2] 29 (0,0))):=ae (by rw [hW];exact Bf _ _ (by simp));have HC:=ae (abX pl dt ds ks uD GX W Tn (mL.on (C:=0) (B:=0) hD (fun kk _ hl=>HB.out.block kk hl) (Nat.le_refl _)) (mL.on (C:=0) (B:=0) hD2 (fun kk _ hl=>HB.out.block kk hl) (Nat.le_refl _)));have HE:=ae (fun (w1:World) (hw1:Below w.heap.size w w1) (b c:Nat) (hb:w1.heap[b]?=some (.cells #[.int .i64 k,.string x,.string y,.int .i64 n,u,uz,.int .i64 a] 27 (0,0))) (hc:w1.heap[c]?=some (.cells #[.int .i64 k2,.string x2,.string y2,.int .i64 n2,u2,Ai,.int .i64 a2] 27 (0,0)))=>abY (m+1) pl [t] [s] (.slice (some ⟨b,0,none⟩) 1 1) (.slice (some ⟨c,0,none⟩) 1 1) w1 (fun q hq=>by rw [List.mem_singleton.1 hq];exact hf) (by obtain ⟨d,hd⟩:=hM.pI (fun kk _ hl=>hw1.block kk hl);exact row_one hb hd) (by obtain ⟨d,hd⟩:=hM2.pI (fun kk _ hl=>hw1.block kk hl);exact row_one hc hd));have Tq:fQ pl (m+1) [t] [s]=sm pl m t s:=by rw [AO];simp [dL]
 rw [Tq] at HE;obtain ⟨R,hR⟩:∃R,R=D9 pl m dt ds ks t s:=⟨_,rfl⟩;rw [<- hR];unfold D9 at hR;generalize dL (nS pl dt) ds ks=A at *;generalize sm pl m t s=E at *;have HR:=ae hR;clear hR hD hD2 hM hM2 hf Tn hb1 hb2 Tq;have z0:=ak HX.out 0 _ rfl;have u0:=ak HY.out 0 _ rfl;go_enter Tryz.func12,Tryz.ntmps12;go_upto_region 1 with fail;rw [<- hW];clear hW;go_wp2_with fail;refine Calls.mono (show Calls _ _ _ _ _ from HC.out) ?_;rintro e w1 ⟨rfl,hb1⟩;have HB1:=ae (aB HB.out hb1);have hx1:=(hb1.block _ (Array.getElem?_eq_some_iff.1 HX.out).1).trans HX.out;have hy1:=(hb1.block _ (Array.getElem?_eq_some_iff.1 HY.out).1).trans HY.out;have z1:=ak hx1 1 _ rfl;have z2:=ak hx1 2 _ rfl;have z3:=ak hx1 3 _ rfl;have z4:=ak hx1 4 _ rfl;have z5:=ak hx1 5 _ rfl;have z6:=ak hx1 6 _ rfl;have z7:=ak hx1 7 _ rfl;have n1:=dF w1 (.cells #[.int .i64 k,.string x,.string y,.int .i64 n,u,uz,.int .i64 a] 27);have LC:=dF (w1.alloc (.cells #[.int .i64 k,.string x,.string y,.int .i64 n,u,uz,.int .i64 a] 27)) (.cells #[.int .i64 k2,.string x2,.string y2,.int .i64 n2,u2,Ai,.int .i64 a2] 27);have v1:=ai n1 (ak hy1 1 _ rfl);have v2:=ai n1 (ak hy1 2 _ rfl);have v3:=ai n1 (ak hy1 3 _ rfl);have v4:=ai n1 (ak hy1 4 _ rfl);have v5:=ai n1 (ak hy1 5 _ rfl);have v6:=ai n1 (ak hy1 6 _ rfl);have v7:=ai n1 (ak hy1 7 _ rfl);have HN:=ae (aB n1 LC);have zY:=ae (HE.out ((w1.alloc (.cells #[.int .i64 k,.string x,.string y,.int .i64 n,u,uz,.int .i64 a] 27)).alloc (.cells #[.int .i64 k2,.string x2,.string y2,.int .i64 n2,u2,Ai,.int .i64 a2] 27)) (aB HB1.out HN.out) w1.heap.size (w1.heap.size+1) (by rw [LC.block _ (by simp)];exact heap_alloc_new w1 _) (Bf _ _ (by simp)));clear hb1 HC HE hx1 hy1 HX HY HB z0 u0 n1 LC;cases A with
 | false =>
  have ba:Hid (false=R):=ae (by rw [HR.out];rfl);clear HR zY;go_wp2;go_ret;exact ⟨bf ba.out,HB1.out⟩
 | true =>
  have ba:Hid (E=R):=ae (by rw [HR.out];rfl);clear HR;go_wp2_with fail;refine Calls.mono (show Calls _ _ _ _ _ from zY.out) ?_;rintro e w2 ⟨rfl,hb2⟩;have HB2:=ae (aB (aB HB1.out HN.out) hb2);clear hb2 zY;go_wp2;go_ret;exact ⟨bf ba.out,HB2.out⟩
namespace Pz
theorem abk {pl:Bool} {dt:Nat} {c:Value} (h:wN dt c):nS pl dt c c=true:=by
 unfold nS;rw [Ft (fun x _=>?_),Ft (fun x hx=>?_)];simp
 ·unfold nK;rw [Jg false dt _ (h x hx)];simp
 ·simp
end Pz
end Go.Proofs.YtkdbgopgjbfhbaaGreatDoor
namespace Go.Proofs.YtkdbgopgjbfhbaaGreatDoor
open Go.RowKit
set_option linter.unusedVariables false
namespace Lx
theorem JQ (y:ByteArray):∀l:List ByteArray,cK y l=true->y ∈ l
 | [],x=>by cases x
 | z :: l,x=>by
  rw [cK] at x;split at x
  ·rename_i e;rw [e];exact List.mem_cons_self ..
  ·exact List.mem_cons_of_mem _ (JQ y l x)
theorem YU:∀y ∈ signs,bt y 1≠10:=fun y hy=>by
 have h:signs.all (fun y=>bt y 1 != 10)=true:=by decide
 simpa using List.all_eq_true.1 h y hy
theorem FN (u:ByteArray) (i j k:Nat) (h1:i+k<j) (h2:j<=u.size):bt (u.extract i j) k=bt u (i+k):=by
 unfold bt;rw [dif_pos (by rw [ByteArray.size_extract];omega),dif_pos (by omega)];simp [ByteArray.getElem_extract]
structure Ext (s u:ByteArray):Prop where
 lt:s.size<u.size
 p9:∀i,i<s.size->bt u i=bt s i
 nl:bt u s.size=10
 ex:∀i j,j<=s.size->u.extract i j=s.extract i j
section
variable {s u:ByteArray} (h:Ext s u)
theorem JR (h:Ext s u) (p:Int->Bool) (hp:p 10=false) {i:Nat} (hi:i<=s.size):en u p i=en s p i:=by
 have h0:=pR s p i;have h1:=jw s p hi;refine FM u p h0 (by have:=h.lt;omega) (fun j hj hj'=>?_) (fun hl=>?_)
 ·rw [h.p9 j (by omega)];exact oK s p hj hj'
 ·rcases Nat.lt_or_ge (en s p i) s.size with hl2|hl2
  ·rw [h.p9 _ hl2];exact sw s p hl2
  ·rw [show en s p i=s.size by omega,h.nl];exact hp
theorem Qf (h:Ext s u):∀(k i:Nat) (n:Int),i+k<=s.size->eO u k i n=eO s k i n
 | 0,_,_,_=>rfl
 | k+1,i,n,hk=>by rw [eO,eO,h.p9 i (by omega),Qf h k (i+1) _ (by omega)]
theorem YV (h:Ext s u) {a f:Nat} (hf:f<=s.size):num u a f=num s a f:=by
 have he:=JR h dg rfl hf;have h0:=pR s dg f;have h1:=jw s dg hf;unfold num;rw [he];by_cases hz:en s dg f=f
 ·rw [if_pos (.inl hz),if_pos (.inl hz)]
 ·rw [h.p9 f (by omega),Qf h _ f 0 (by omega)]
theorem YP (h:Ext s u) {i:Nat} (hi:i<s.size):one u i=one s i:=by
 have he:=JR h pt rfl (Nat.le_of_lt hi);have hl:=jw s pt (Nat.le_of_lt hi);have hl1:=jw s pt (show i+1<=s.size by omega);have he1:=JR h pt rfl (show i+1<=s.size by omega);have hb:=h.p9 i hi;have hlt:=h.lt;unfold one;rw [hb,he,he1,h.ex i _ hl,h.ex (i+1) _ hl1];by_cases c1:sm (bt s i)=true\/cp (bt s i)=true
 ·rw [if_pos c1,if_pos c1]
 ·rw [if_neg c1,if_neg c1];by_cases c2:bt s i=39
  ·rw [if_pos c2,if_pos c2];by_cases c3:i+1=s.size
   ·have c4:sm (bt u (i+1))=false:=by rw [c3,h.nl];rfl
    rw [if_pos (.inr c4),if_pos (.inl c3)]
   ·rw [h.p9 (i+1) (by omega)];by_cases c4:sm (bt s (i+1))=false
    ·rw [if_pos (.inr c4),if_pos (.inr c4)]
    ·have n1:¬ (i+1=u.size\/sm (bt s (i+1))=false):=by rintro (x|x);omega;exact c4 x
     have n2:¬ (i+1=s.size\/sm (bt s (i+1))=false):=by rintro (x|x);omega;exact c4 x
     rw [if_neg n1,if_neg n2]
  ·rw [if_neg c2,if_neg c2];by_cases c3:bt s i=126\/dg (bt s i)=true
   ·rw [if_pos c3,if_pos c3];rw [YV h (show (if bt s i=126 then i+1 else i)<=s.size by split<;>omega)]
   ·rw [if_neg c3,if_neg c3];have e1:=h.ex i (i+1) (by omega);by_cases c4:i+2<=s.size
    ·rw [h.ex i (i+2) c4,e1];have a1:(i+2<=u.size)=True:=eq_true (by omega);have a2:(i+2<=s.size)=True:=eq_true c4;have a3:(i+1<=u.size)=True:=eq_true (by omega);have a4:(i+1<=s.size)=True:=eq_true (by omega);simp only [a1,a2,a3,a4,true_and]
    ·have a3:(i+1<=u.size)=True:=eq_true (by omega);have a4:(i+1<=s.size)=True:=eq_true (by omega)
     have no:¬ (i+2<=u.size/\cK (u.extract i (i+2)) signs=true):=fun x=>by
      have hb:bt (u.extract i (i+2)) 1=10:=by
       rw [FN u i (i+2) 1 (by omega) x.1,show i+1=s.size by omega,h.nl]
      exact YU _ (JQ _ _ x.2) hb
     have n2:¬ (i+2<=s.size/\cK (s.extract i (i+2)) signs=true):=fun x=>c4 x.1;rw [if_neg no,if_neg n2,e1];simp only [a3,a4,true_and]
theorem FK (h:Ext s u):∀(f:Nat) (c:Bool) (i:Nat),i<=s.size->s.size<=i+f->sk u c i=if sk s c i<s.size then sk s c i else sk u false (s.size+1)
 | 0,c,i,hi,hf=>by
  obtain rfl:i=s.size:=by omega
  rw [JM s c (Nat.lt_irrefl _),if_neg (Nat.lt_irrefl _),oO u c h.lt,if_pos h.nl]
 | f+1,c,i,hi,hf=>by
  rcases Nat.lt_or_ge i s.size with hl|hl
  ·have h1:=fun c=>FK h f c (i+1) (by omega) (by omega);rw [oO u c (by have:=h.lt;omega),h.p9 i hl,oO s c hl];split
   ·exact h1 false
   ·split
    ·exact h1 true
    ·split
     ·exact h1 true
     ·split
      ·exact h1 false
      ·first|rfl|rw [if_pos hl]
  ·obtain rfl:i=s.size:=by omega
   rw [JM s c (Nat.lt_irrefl _),if_neg (Nat.lt_irrefl _),oO u c h.lt,if_pos h.nl]
end
end Lx
namespace Lx
theorem CY {s:ByteArray} {i:Nat} {z:Int} (h:one s i=.error z):z=2\/z=110:=by
 unfold one at h
 repeat' split at h
 all_goals first|(injection h with h;omega)|cases h
theorem tT (s:ByteArray):∀(f g i:Nat) (acc:List Tk),s.size<=i+f->s.size<=i+g->bH s f i acc=bH s g i acc
 | 0,g,i,acc,hf,hg=>by rw [qK s 0 i acc (by omega),qK s g i acc (by omega)]
 | f+1,g,i,acc,hf,hg=>by
  rcases Nat.lt_or_ge i s.size with hl|hl
  ·obtain ⟨g,rfl⟩:∃k,g=k+1:=⟨g-1,by omega⟩;rw [bH,bH,if_pos hl,if_pos hl];cases ho:one s i with
   | error z=>rfl
   | ok r =>
    obtain ⟨k,x,n,e⟩:=r;have he:=wh hl ho;have hs:=Dt s false e;simp only;split
    ·rfl
    ·exact tT s f g _ _ (by omega) (by omega)
  ·rw [qK s _ i acc (by omega),qK s g i acc (by omega)]
def bV (m:Nat) (l:List Tk):List Tk:=l.map fun t=>⟨t.k,t.x,t.n,(m:Int)+t.a⟩
theorem CZ (m:Nat) (l k:List Tk):bV m (l++k)=bV m l++bV m k:=by simp [bV]
theorem uK (m:Nat) (l:List Tk):(bV m l).length=l.length:=by simp [bV]
structure Sub (m:Nat) (t u:ByteArray):Prop where
 size:m+t.size=u.size
 ex:u.extract m u.size=t
section
variable {m:Nat} {t u:ByteArray} (h:Sub m t u)
theorem P6 (h:Sub m t u) (i:Nat):u.extract (m+i) u.size=t.extract i t.size:=by
 have hs:=h.size
 have:=yL u m i t.size (by omega)
 rw [h.ex,hs] at this;exact this.symm
theorem uL (h:Sub m t u) (c:Bool) {i:Nat} (hi:i<=t.size):sk u c (m+i)=m+sk t c i:=by
 have hs:=h.size;rw [<- JG u (m+i) (by omega) c,<- JG t i hi c,P6 h i,Nat.add_assoc]
theorem sub_one (h:Sub m t u) {i:Nat} (hi:i<t.size):one u (m+i)=uE m (one t i):=by
 have hs:=h.size;rw [I8 u (m+i) (by omega),I8 t i hi,P6 h i];cases one (t.extract i t.size) 0 with
 | error z=>rfl
 | ok r=>obtain ⟨k,x,n,e⟩:=r;simp [uE,Nat.add_assoc]
theorem P7 (h:Sub m t u):∀(f i:Nat) (acc l0:List Tk),l0.length+acc.length+(t.size-i)<4096 ->
  bH u f (m+i) (l0++bV m acc)=(if (bH t f i acc).2.2=0 then (l0++bV m (bH t f i acc).1,0,0) else ([],(m:Int)+(bH t f i acc).2.1,(bH t f i acc).2.2))
 | 0,i,acc,l0,hb=>by rw [bH,bH,if_pos rfl]
 | f+1,i,acc,l0,hb=>by
  have hs:=h.size;rcases Nat.lt_or_ge i t.size with hl|hl
  ·rw [bH,if_pos (show m+i<u.size by omega),bH,if_pos hl,sub_one h hl];cases ho:one t i with
   | error z =>
    have hz:z≠0:=by rcases CY ho with h|h<;>omega
    simp only [uE];rw [if_neg hz,Int.natCast_add]
   | ok r =>
    obtain ⟨k,x,n,e⟩:=r;have he:=wh hl ho;have hg:=Dt t false e;simp only [uE];rw [if_neg (show ¬ (l0++bV m acc).length=4096 by rw [List.length_append,uK];omega),if_neg (show ¬ acc.length=4096 by omega),uL h false he.2]
    have:=P7 h f (sk t false e) (acc++[⟨k,x,n,i⟩]) l0 (by rw [List.length_append];simp;omega)
    rw [CZ,<- List.append_assoc] at this;rw [<- this];simp [bV]
  ·rw [qK u _ _ _ (by omega),qK t _ _ _ (by omega),if_pos rfl]
end
section
variable {s u:ByteArray} (h:Ext s u)
theorem JH (h:Ext s u) (h4:s.size<4096):∀(f F i:Nat) (acc:List Tk),i<=s.size->s.size<=i+f->u.size<=(if i<s.size then i else sk u false (s.size+1))+F->acc.length<=i ->
  ((bH s f i acc).2.2=0/\(bH s f i acc).1.length<=s.size/\∃F',u.size<=sk u false (s.size+1)+F'/\bH u F (if i<s.size then i else sk u false (s.size+1)) acc=bH u F' (sk u false (s.size+1)) (bH s f i acc).1)
  \/ ((bH s f i acc).2.2≠0/\bH u F (if i<s.size then i else sk u false (s.size+1)) acc=([],(bH s f i acc).2.1,(bH s f i acc).2.2)/\(bH s f i acc).1 = []/\0<=(bH s f i acc).2.1/\(bH s f i acc).2.1<s.size)
 | 0,F,i,acc,hi,hf,hF,ha=>by
  obtain rfl:i=s.size:=by omega
  rw [if_neg (Nat.lt_irrefl _)] at hF ⊢;exact .inl ⟨rfl,ha,F,hF,rfl⟩
 | f+1,F,i,acc,hi,hf,hF,ha=>by
  rcases Nat.lt_or_ge i s.size with hl|hl
  ·rw [if_pos hl] at hF ⊢;have hlt:=h.lt;obtain ⟨G,rfl⟩:∃G,F=G+1:=⟨F-1,by omega⟩;rw [bH,if_pos hl]
   have hu:bH u (G+1) i acc=(match one s i with
    | .error z=>([],(i:Int),z)
    | .ok (k,x,n,e)=>if acc.length=4096 then ([],(i:Int),3) else bH u G (sk u false e) (acc++[⟨k,x,n,i⟩])):=by
    rw [bH,if_pos (by omega),YP h hl];cases one s i<;>rfl
   rw [hu];cases ho:one s i with
   | error z =>
    have hz:z≠0:=by rcases CY ho with h|h<;>omega
    exact .inr ⟨hz,rfl,rfl,by simp,by simp;omega⟩
   | ok r =>
    obtain ⟨k,x,n,e⟩:=r;have he:=wh hl ho;have hg:=Dt s false e;have hle:=zq s false he.2;simp only;have hne:¬ acc.length=4096:=by omega
    rw [if_neg hne,if_neg hne,FK h s.size false e he.2 (by omega)];have hm:=Dt u false (s.size+1);exact JH h h4 f G (sk s false e) (acc++[⟨k,x,n,i⟩]) hle (by omega) (by split<;>omega) (by rw [List.length_append];simp;omega)
  ·obtain rfl:i=s.size:=by omega
   rw [if_neg (Nat.lt_irrefl _)] at hF ⊢;rw [qK s _ _ _ (Nat.lt_irrefl _)];exact .inl ⟨rfl,ha,F,hF,rfl⟩
end
theorem FL {y:ByteArray} (h:y.size=0):y=ByteArray.empty:=ByteArray.ext (Array.eq_empty_of_size_eq_zero h)
theorem JI (s t:ByteArray):Ext s (s++⟨#[10]⟩++t)/\Sub (s.size+1) t (s++⟨#[10]⟩++t):=by
 obtain ⟨x,hx⟩:∃x:ByteArray,x=⟨#[10]⟩:=⟨_,rfl⟩;have h1:x.size=1:=by rw [hx];rfl
 have h0:(x[0]'(by omega)).toNat=10:=by subst hx;rfl
 rw [<- hx];clear hx;have hsz:(s++x++t).size=s.size+1+t.size:=by simp [h1]
 refine ⟨⟨by omega,fun i hi=>?_,?_,fun i j hj=>?_⟩,⟨by omega,?_⟩⟩
 ·unfold bt;rw [dif_pos (by omega),dif_pos hi];rw [ByteArray.getElem_append_left (by simp;omega),ByteArray.getElem_append_left hi]
 ·unfold bt;rw [dif_pos (by omega)];rw [ByteArray.getElem_append_left (by simp;omega),ByteArray.getElem_append_right (by simp)];simp [h0]
 ·rw [ByteArray.append_assoc,ByteArray.extract_append];rw [show j-s.size=0 by omega,FL (y:=(x++t).extract (i-s.size) 0) (by rw [ByteArray.size_extract];omega)];simp
 ·rw [ByteArray.extract_append,hsz];rw [FL (y:=(s++x).extract (s.size+1) (s.size+1+t.size)) (by rw [ByteArray.size_extract];simp [h1]),show (s++x).size=s.size+1 by simp [h1],Nat.sub_self,Nat.add_sub_cancel_left];simp
end Lx
namespace Lx
structure Loc (s u:ByteArray) (i e:Nat):Prop where
 le:i<=e
 es:e<=s.size
 eu:e-i<=u.size
 p9:∀a,i+a<e->bt u a=bt s (i+a)
 ex:∀a b,i+b<=e->u.extract a b=s.extract (i+a) (i+b)
 Ug:e-i=u.size\/(e<s.size/\bt u (e-i)=bt s e)\/bl (bt u (e-i))=true
theorem Uh {c:Int} (h:bl c=true):c=9\/c=10\/c=13\/c=32:=by
 unfold bl at h;simp only [Bool.or_eq_true,beq_iff_eq] at h;omega
theorem Ui {c:Int} (h:bl c=true):pt c=false:=by
 rcases Uh h with rfl|rfl|rfl|rfl<;>rfl
theorem acu {c:Int} (h:bl c=true):dg c=false:=by
 rcases Uh h with rfl|rfl|rfl|rfl<;>rfl
section
variable {s u:ByteArray} {i e:Nat} (h:Loc s u i e)
theorem LW (h:Loc s u i e) (p:Int->Bool) (hb:∀c,bl c=true->p c=false) {f:Nat} (hf:i+f<=e) (he:en s p (i+f)=e):en u p f=e-i:=by
 have hle:=h.le;refine FM u p (by omega) h.eu (fun j hj hj'=>?_) (fun hl=>?_)
 ·rw [h.p9 j (by omega)];exact oK s p (i:=i+f) (by omega) (by omega)
 ·rcases h.Ug with hb'|⟨h1,h2⟩|h3
  ·omega
  ·rw [h2,<- he];exact sw s p (by omega)
  ·exact hb _ h3
theorem Uj (h:Loc s u i e):∀(k f:Nat) (n:Int),i+f+k<=e->eO u k f n=eO s k (i+f) n
 | 0,_,_,_=>rfl
 | k+1,f,n,hk=>by rw [eO,eO,h.p9 f (by omega),Uj h k (f+1) _ (by omega),Nat.add_assoc]
theorem acv (h:Loc s u i e) {f:Nat} {n:Int} (hf:i+f<=e) (hn:num s i (i+f)=some (n,e)):num u 0 f=some (n,e-i):=by
 have hle:=h.le
 have he:en s dg (i+f)=e:=by
  unfold num at hn;obtain ⟨V,hV⟩:∃V,(if i<i+f then -eO s (en s dg (i+f)-(i+f)) (i+f) 0 else eO s (en s dg (i+f)-(i+f)) (i+f) 0)=V:=⟨_,rfl⟩;rw [hV] at hn;split at hn
  ·cases hn
  ·split at hn
   ·injection hn with hn;injection hn
   ·cases hn
 have Uk:=LW h dg (fun c=>acu) hf he;unfold num at hn ⊢;rw [he] at hn;rw [Uk];have hvl:=Uj h (e-(i+f)) f 0 (by omega);have hk:e-i-f=e-(i+f):=by omega
 rw [hk,hvl];by_cases hz:e=i+f
 ·rw [if_pos (.inl hz)] at hn;cases hn
 ·have hbt:bt u f=bt s (i+f):=h.p9 f (by omega);rw [hbt]
  have hsg:(if 0<f then -eO s (e-(i+f)) (i+f) 0 else eO s (e-(i+f)) (i+f) 0)=(if i<i+f then -eO s (e-(i+f)) (i+f) 0 else eO s (e-(i+f)) (i+f) 0):=by
   by_cases h0:0<f
   ·rw [if_pos h0,if_pos (by omega)]
   ·rw [if_neg h0,if_neg (by omega)]
  rw [hsg];obtain ⟨V,hV⟩:∃V,(if i<i+f then -eO s (e-(i+f)) (i+f) 0 else eO s (e-(i+f)) (i+f) 0)=V:=⟨_,rfl⟩;rw [hV] at hn ⊢;by_cases hc:e=i+f\/(1<e-(i+f)/\bt s (i+f)=48)\/10<e-(i+f)
  ·rw [if_pos hc] at hn;cases hn
  ·rw [if_neg hc] at hn;have hc':¬ (e-i=f\/(1<e-(i+f)/\bt s (i+f)=48)\/10<e-(i+f)):=fun x=>hc (by rcases x with x|x|x;exact .inl (by omega);exact .inr (.inl x);exact .inr (.inr x))
   rw [if_neg hc'];split at hn
   ·rename_i hi;rw [if_pos hi];injection hn with hn;injection hn with h1 h2;rw [h1]
   ·cases hn
end
end Lx
namespace Lx
theorem adO {x y:ByteArray} (hs:x.size=y.size) (hb:∀k,k<x.size->bt x k=bt y k):x=y:=by
 apply ByteArray.ext;apply Array.ext
 ·exact hs
 ·intro k h1 h2;have h:=hb k h1;unfold bt at h;rw [dif_pos (show k<x.size from h1),dif_pos (show k<y.size from h2)] at h;have h':(x[k]'h1).toNat=(y[k]'h2).toNat:=by omega
  exact UInt8.toNat.inj h'
theorem adP:∀y ∈ signs,bl (bt y 1)=false:=fun y hy=>by
 have h:signs.all (fun y=>!bl (bt y 1))=true:=by decide
 simpa using List.all_eq_true.1 h y hy
section
variable {s u:ByteArray} {i e:Nat} (h:Loc s u i e)
theorem acA (h:Loc s u i e) {k:Int} {x:ByteArray} {n:Int} (hi:i<s.size) (ho:one s i=.ok (k,x,n,e)):one u 0=.ok (k,x,n,e-i):=by
 have hend:=wh hi ho;have hb0:bt u 0=bt s i:=h.p9 0 (by omega);have Uk:=h.eu;unfold one at ho ⊢;rw [hb0];by_cases c1:sm (bt s i)=true\/cp (bt s i)=true
 ·rw [if_pos c1] at ho ⊢;split at ho
  ·cases ho
  ·rename_i h32;injection ho with ho;injection ho with e1 ho;injection ho with e2 ho;injection ho with e3 e4;have hen:=LW h pt (fun c=>Ui) (f:=0) (by omega) e4;rw [hen,h.ex 0 (e-i) (by omega),show i+(e-i)=e by omega,Nat.add_zero];rw [e4] at e1 e2 h32;rw [if_neg (show ¬ 32<e-i-0 by omega),e1,e2,e3]
 ·rw [if_neg c1] at ho ⊢;by_cases c2:bt s i=39
  ·rw [if_pos c2] at ho ⊢;split at ho
   ·cases ho
   ·rename_i hn;split at ho
    ·cases ho
    ·rename_i h32;injection ho with ho;injection ho with e1 ho;injection ho with e2 ho;injection ho with e3 e4;have hsm:sm (bt s (i+1))=true:=by cases x:sm (bt s (i+1));exact absurd (.inr x) hn;rfl
     have hne:i+1≠s.size:=fun x=>hn (.inl x)
     have hge:i+2<=e:=by
      have h1:=pR s pt (i+1+1);rw [<- AK s pt (by omega) (Fa hsm),e4] at h1;omega
     have hb1:bt u (0+1)=bt s (i+1):=h.p9 1 (by omega);have hen:=LW h pt (fun c=>Ui) (f:=1) (by omega) e4;have n1:¬ (0+1=u.size\/sm (bt u (0+1))=false):=by rw [hb1,hsm];rintro (x|x);omega;cases x
     rw [if_neg n1,Nat.zero_add,hen,h.ex 1 (e-i) (by omega),show i+(e-i)=e by omega];rw [e4] at e2 h32;rw [if_neg (show ¬ 32<e-i-1 by omega),e2,e3,<- e1]
  ·rw [if_neg c2] at ho ⊢;by_cases c3:bt s i=126\/dg (bt s i)=true
   ·rw [if_pos c3] at ho ⊢;obtain ⟨f,hf⟩:∃f,(if bt s i=126 then 0+1 else 0)=f:=⟨_,rfl⟩;have I9:(if bt s i=126 then i+1 else i)=i+f:=by rw [<- hf];split<;>omega
    rw [hf];rw [I9] at ho;cases Bx:num s i (i+f) with
    | none=>rw [Bx] at ho;cases ho
    | some r =>
     obtain ⟨n',e'⟩:=r;rw [Bx] at ho;injection ho with ho;injection ho with e1 ho;injection ho with e2 ho;injection ho with e3 e4;subst e4;have hfe:i+f<=e':=by have:=(OP (s:=s) (a:=i) (f:=i+f) (by rw [<- hf];split<;>omega) Bx).1;omega
     rw [acv h hfe Bx,<- e1,<- e2,<- e3]
   ·rw [if_neg c3] at ho ⊢;by_cases c4:i+2<=s.size/\cK (s.extract i (i+2)) signs=true
    ·rw [if_pos c4] at ho;injection ho with ho;injection ho with e1 ho;injection ho with e2 ho;injection ho with e3 e4;have hx:=h.ex 0 2 (by omega);rw [Nat.add_zero] at hx;have c5:0+2<=u.size/\cK (u.extract 0 (0+2)) signs=true:=⟨by omega,by rw [Nat.zero_add,hx];exact c4.2⟩;rw [if_pos c5,Nat.zero_add,hx,e2,<- e1,<- e3,show e-i=2 by omega]
    ·rw [if_neg c4] at ho;split at ho
     ·rename_i c5;injection ho with ho;injection ho with e1 ho;injection ho with e2 ho;injection ho with e3 e4;have hx:=h.ex 0 1 (by omega);rw [Nat.add_zero] at hx
      have n5:¬ (0+2<=u.size/\cK (u.extract 0 (0+2)) signs=true):=fun y=>by
       have hm:=JQ _ _ y.2;have hy1:2<=u.size:=y.1;have hb1:bt (u.extract 0 (0+2)) 1=bt u 1:=by rw [FN u 0 (0+2) 1 (by omega) y.1,Nat.zero_add]
       rcases h.Ug with hb|⟨h1,h2⟩|h3
       ·omega
       ·rw [show e-i=1 by omega] at h2;refine c4 ⟨by omega,?_⟩
        have he2:u.extract 0 (0+2)=s.extract i (i+2):=by
         refine adO (by rw [ByteArray.size_extract,ByteArray.size_extract];omega) fun k hk=>?_;rw [ByteArray.size_extract] at hk;rw [FN u 0 (0+2) k (by omega) y.1,FN s i (i+2) k (by omega) (by omega),Nat.zero_add];rcases (show k=0\/k=1 by omega) with rfl|rfl
         ·rw [hb0];rfl
         ·rw [h2,<- e4]
        rw [<- he2];exact y.2
       ·rw [show e-i=1 by omega,<- hb1,adP _ hm] at h3;cases h3
      have c6:0+1<=u.size/\cK (u.extract 0 (0+1)) signs=true:=⟨by omega,by rw [Nat.zero_add,hx];exact c5.2⟩;rw [if_neg n5,if_pos c6,Nat.zero_add,hx,e2,<- e1,<- e3,show e-i=1 by omega]
     ·cases ho
end
end Lx
namespace Lx
def Lk:List Tk->List Tk->Prop
 | [],[]=>True
 | x :: l,y :: k=>x.k=y.k/\x.x=y.x/\x.n=y.n/\Lk l k
 | _,_=>False
theorem Lk.bV (m:Nat):∀ {l k:List Tk},Lk l k->Lk l (bV m k)
 | [],[],_=>trivial
 | x :: l,y :: k,h=>⟨h.1,h.2.1,h.2.2.1,Lk.bV m h.2.2.2⟩
theorem Lk.len:∀ {l k:List Tk},Lk l k->l.length=k.length
 | [],[],_=>rfl
 | x :: l,y :: k,h=>by rw [List.length_cons,List.length_cons,Lk.len h.2.2.2]
theorem Lk.at_:∀ {l k:List Tk},Lk l k->∀(i:Nat) (x y:Tk),l[i]?=some x->k[i]?=some y->x.k=y.k/\x.x=y.x/\x.n=y.n
 | [],[],_,i,x,y,hx,_=>by simp at hx
 | a :: l,b :: k,h,0,x,y,hx,hy=>by simp at hx hy;subst hx;subst hy;exact ⟨h.1,h.2.1,h.2.2.1⟩
 | a :: l,b :: k,h,i+1,x,y,hx,hy=>Lk.at_ h.2.2.2 i x y (by simpa using hx) (by simpa using hy)
theorem Pj (s:ByteArray):∀(f i:Nat) (acc:List Tk),(bH s f i acc).2.2=0->acc.length<=(bH s f i acc).1.length
 | 0,i,acc,_=>Nat.le_refl _
 | f+1,i,acc,h=>by
  rw [bH] at h ⊢;split at h
  ·rename_i hi;rw [if_pos hi];cases ho:one s i with
   | error z=>rw [ho] at h;simp only at h;rcases CY ho with e|e<;>omega
   | ok r =>
    obtain ⟨k,x,n,e⟩:=r;rw [ho] at h;simp only at h ⊢;by_cases h4:acc.length=4096
    ·rw [if_pos h4] at h;cases h
    ·rw [if_neg h4] at h ⊢
     have:=Pj s f _ _ h
     rw [List.length_append] at this;simp at this;omega
  ·rename_i hi;rw [if_neg hi];exact Nat.le_refl _
theorem Fz {m:Nat} {t u:ByteArray} (h:Sub m t u):∀(f i:Nat) (acc l0:List Tk),(bH t f i acc).2.2=0->l0.length+(bH t f i acc).1.length<=4096->bH u f (m+i) (l0++bV m acc)=(l0++bV m (bH t f i acc).1,0,0)
 | 0,i,acc,l0,_,_=>by rw [bH,bH]
 | f+1,i,acc,l0,hz,hb=>by
  have hs:=h.size;rcases Nat.lt_or_ge i t.size with hl|hl
  ·have e1:bH t (f+1) i acc=(match one t i with
    | .error z=>([],(i:Int),z)
    | .ok (k,x,n,e)=>if acc.length=4096 then ([],(i:Int),3) else bH t f (sk t false e) (acc++[⟨k,x,n,i⟩]))   := by rw [bH,if_pos hl];cases one t i<;>rfl
   rw [bH,if_pos (show m+i<u.size by omega),sub_one h hl];rw [e1] at hz hb ⊢;cases ho:one t i with
   | error z=>rw [ho] at hz;simp only at hz;rcases CY ho with e|e<;>omega
   | ok r =>
    obtain ⟨k,x,n,e⟩:=r;rw [ho] at hz hb;simp only at hz hb ⊢;have he:=wh hl ho;by_cases h4:acc.length=4096
    ·rw [if_pos h4] at hz;cases hz
    ·rw [if_neg h4] at hz hb ⊢;have hal:=Pj t f _ _ hz;rw [List.length_append] at hal;simp at hal;simp only [uE];rw [if_neg (show ¬ (l0++bV m acc).length=4096 by rw [List.length_append,uK];omega),uL h false he.2]
     have:=Fz h f (sk t false e) (acc++[⟨k,x,n,i⟩]) l0 hz hb
     rw [CZ,<- List.append_assoc] at this;rw [<- this];simp [bV]
  ·rw [qK u _ _ _ (by omega),qK t _ _ _ (by omega)]
theorem sub_self (s:ByteArray):Sub 0 s s:=⟨Nat.zero_add _,by simp⟩
theorem uM {u:ByteArray} {i:Nat} (hi:i<u.size) (h1:bl (bt u i)=false) (h2:bt u i≠35):sk u false i=i:=by
 have h10:bt u i≠10:=fun e=>by rw [e] at h1;cases h1
 rw [oO u false hi,if_neg h10,if_neg (by decide),if_neg h2,h1,if_neg (by decide)]
end Lx
end Go.Proofs.YtkdbgopgjbfhbaaGreatDoor
namespace Go.Proofs.YtkdbgopgjbfhbaaGreatDoor
open Go.RowKit Lx Pz bq
set_option linter.unusedVariables false
namespace Pz
section
variable {α β:Type} {P:α->β->Prop}
theorem xL:∀ {l:List α} {k:List β},l2 P l k->l.length=k.length
 | [],[],_=>rfl
 | a :: l,b :: k,h=>by rw [List.length_cons,List.length_cons,xL h.2]
 | [],_ :: _,h=>h.elim
 | _ :: _,[],h=>h.elim
theorem vw {f:α->Bool} {g:β->Bool} (hf:∀a b,P a b->f a=g b):∀ {l:List α} {k:List β},l2 P l k->l.any f=k.any g
 | [],[],_=>rfl
 | a :: l,b :: k,h=>by rw [List.any_cons,List.any_cons,hf a b h.1,vw hf h.2]
 | [],_ :: _,h=>h.elim
 | _ :: _,[],h=>h.elim
theorem KT:∀ {l:List α} {k:List β},l2 P l k->∀b ∈ k,∃a ∈ l,P a b
 | [],[],_,b,hb=>by cases hb
 | a :: l,b :: k,h,c,hc=>by
  rcases List.mem_cons.1 hc with rfl|hc
  ·exact ⟨a,List.Mem.head _,h.1⟩
  ·obtain ⟨a',h1,h2⟩:=KT h.2 c hc;exact ⟨a',List.Mem.tail _ h1,h2⟩
 | [],_ :: _,h,_,_=>h.elim
 | _ :: _,[],h,_,_=>h.elim
end
theorem GL {P:Value->Value->Prop} {f:Value->Value->Bool}:∀ {l k:List Value},l2 P l k->(∀a ∈ l,∀b,P a b->f a b=true)->dL f l k=true
 | [],[],_,_=>rfl
 | a :: l,b :: k,h,hf=>by
  unfold dL;rw [hf a (List.Mem.head _) b h.1,GL h.2 (fun x hx=>hf x (List.Mem.tail _ hx))];rfl
 | [],_ :: _,h,_=>h.elim
 | _ :: _,[],h,_=>h.elim
theorem GM {P:Value->Value->Prop} {f:Nat->Value->Nat} (hf:∀a b,P a b->∀c,f c a=f c b):∀ {l k:List Value} (c:Nat),l2 P l k->ed f c l=ed f c k
 | [],[],_,_=>rfl
 | a :: l,b :: k,c,h=>by
  unfold ed;rw [hf a b h.1 c,GM hf _ h.2]
 | [],_ :: _,_,h=>h.elim
 | _ :: _,[],_,h=>h.elim
section
variable {Pl:Int->Int->Prop}
theorem AL.out {a b:Value} (h:AL Pl a b):∃k x y n es ps es' ps' u v,a=Pz.nd k x y n es ps u/\b=Pz.nd k x y n es' ps' v/\Pl u v/\l2 (AL Pl) es es'/\l2 (AL Pl) ps ps':=by
 obtain ⟨d,hd⟩:=h;cases d with
 | zero=>exact hd.elim
 | succ d =>
  obtain ⟨k,x,y,n,es,ps,es',ps',u,v,h1,h2,hp,h3,h4⟩:=hd;exact ⟨k,x,y,n,es,ps,es',ps',u,v,h1,h2,hp,xM (fun p q h=>⟨d,h⟩) h3,xM (fun p q h=>⟨d,h⟩) h4⟩
theorem Bp:∀(m:Nat) (a b:Value),AL Pl a b->fit m a->fit m b
 | 0,a,b,h,hf=>by
  obtain ⟨k,x,y,n,es,ps,es',ps',u,v,rfl,rfl,_,h1,h2⟩:=h.out;obtain ⟨_,e1,e2⟩:=hf;rw [ko] at e1;rw [qI] at e2;subst e1 e2;refine ⟨⟨_,_,_,_,_,_,_,rfl⟩,?_,?_⟩
  ·exact List.length_eq_zero_iff.1 (xL h1).symm
  ·exact List.length_eq_zero_iff.1 (xL h2).symm
 | m+1,a,b,h,hf=>by
  obtain ⟨k,x,y,n,es,ps,es',ps',u,v,rfl,rfl,_,h1,h2⟩:=h.out;obtain ⟨_,e1,e2⟩:=hf;refine ⟨⟨_,_,_,_,_,_,_,rfl⟩,?_,?_⟩
  ·intro q hq;obtain ⟨p,hp,hpq⟩:=KT h1 q hq;exact Bp m p q hpq (e1 p hp)
  ·intro q hq;obtain ⟨p,hp,hpq⟩:=KT h2 q hq;exact Bp m p q hpq (e2 p hp)
theorem RI {k:Int} {x y:ByteArray} {n:Int} {es ps es' ps':List Value} {u v:Int}:tL false (nd k x y n es ps u) (nd k x y n es' ps' v)=true:=by
 show (((k == k) && (decide (x=x) && (decide (y=y) && ((n == n) && true)))):Bool)=true;simp
theorem KU:∀(m:Nat) (a b:Value),AL Pl a b->fit m a->sm false m a b=true
 | 0,a,b,h,hf=>by
  obtain ⟨k,x,y,n,es,ps,es',ps',u,v,rfl,rfl,_,h1,h2⟩:=h.out;obtain ⟨_,e1,e2⟩:=hf;rw [ko] at e1;rw [qI] at e2;subst e1 e2;obtain rfl:=List.length_eq_zero_iff.1 (xL h1).symm;obtain rfl:=List.length_eq_zero_iff.1 (xL h2).symm;unfold sm;rw [RI];rfl
 | m+1,a,b,h,hf=>by
  obtain ⟨k,x,y,n,es,ps,es',ps',u,v,rfl,rfl,_,h1,h2⟩:=h.out;obtain ⟨_,e1,e2⟩:=hf;unfold sm;rw [RI,ko,ko,qI,qI,AO,AO,GL h1 (fun p hp q hq=>KU m p q hq (e1 p hp)),GL h2 (fun p hp q hq=>KU m p q hq (e2 p hp))];rfl
theorem RJ:∀(m:Nat) (a b:Value),AL Pl a b->kg m a=kg m b
 | 0,a,b,h=>rfl
 | m+1,a,b,h=>by
  obtain ⟨k,x,y,n,es,ps,es',ps',u,v,rfl,rfl,_,h1,h2⟩:=h.out;unfold kg;rw [ko,ko,vZ,vZ,xL h1,vw (fun p q hq=>RJ m p q hq) h1]
theorem RL:∀(m:Nat) (a b:Value),AL Pl a b->kR m a=kR m b
 | 0,a,b,h=>rfl
 | m+1,a,b,h=>by
  obtain ⟨k,x,y,n,es,ps,es',ps',u,v,rfl,rfl,_,h1,h2⟩:=h.out;unfold kR;rw [ko,ko,qI,qI,vZ,vZ,xL h1,vw (fun p q hq=>RL m p q hq) h1,vw (fun p q hq=>RJ m p q hq) h2]
theorem RN:∀(m:Nat) (a b:Value),AL Pl a b->∀c,fS m c a=fS m c b
 | 0,a,b,h,c=>rfl
 | m+1,a,b,h,c=>by
  obtain ⟨k,x,y,n,es,ps,es',ps',u,v,rfl,rfl,_,h1,h2⟩:=h.out;unfold fS;rw [ko,ko,GM (fun p q hq=>RN m p q hq) _ h1]
theorem RO:∀(m:Nat) (a b:Value),AL Pl a b->∀c,il m c a=il m c b
 | 0,a,b,h,c=>rfl
 | m+1,a,b,h,c=>by
  obtain ⟨k,x,y,n,es,ps,es',ps',u,v,rfl,rfl,_,h1,h2⟩:=h.out;unfold il;rw [ko,ko,qI,qI,GM (fun p q hq=>RO m p q hq) _ h1,GM (fun p q hq=>RN m p q hq) _ h2]
theorem RP:∀(m:Nat) (l k:List Value),l2 (AL Pl) l k->iK m l=iK m k
 | 0,l,k,h=>vw (fun _ _ _=>rfl) h
 | m+1,l,k,h=>by
  unfold iK;refine vw (fun p q hq=>?_) h;obtain ⟨k,x,y,n,es,ps,es',ps',u,v,rfl,rfl,_,h1,h2⟩:=hq.out;rw [ko,ko];exact RP m es es' h1
theorem RQ:∀(m:Nat) (a b:Value),AL Pl a b->lI m a=lI m b
 | 0,a,b,h=>rfl
 | m+1,a,b,h=>by
  obtain ⟨k,x,y,n,es,ps,es',ps',u,v,rfl,rfl,_,h1,h2⟩:=h.out;unfold lI;rw [ko,ko,qI,qI,vw (fun p q hq=>RQ m p q hq) h1,RP m ps ps' h2]
theorem abg {a b:Value} (h:vA Pl a b):yI a=yI b:=by
 obtain ⟨x,ps,cs,u,v,rfl,rfl,_⟩:=h;rfl
theorem abh {m:Nat} {a b:Value} (h:vA Pl a b):ui m a=ui m b:=by
 obtain ⟨x,ps,cs,u,v,rfl,rfl,_⟩:=h;rfl
theorem abj {dt:Nat} {a b:Value} (hf:wN dt a) (h:vA Pl a b):nS false dt a b=true:=by
 obtain ⟨x,ps,cs,u,v,rfl,rfl,_⟩:=h;exact abk (pl:=false) hf
theorem aah {d:Nat} {ds ks:List Value} {a b:Value} (h:l2 (vA Pl) ds ks) (h':AL Pl a b):kV d ds a=kV d ks b:=by
 unfold kV;rw [xL h,RO _ a b h' 0,vw (fun p q hq=>abg hq) h,RL _ a b h']
theorem aai {m:Nat} {ds ks:List Value} {a b:Value} (h:l2 (vA Pl) ds ks) (h':AL Pl a b):pq m ds a=pq m ks b:=by
 unfold pq;rw [vw (fun p q hq=>abh hq) h,RQ _ a b h']
theorem RS {d dt:Nat} {ds ks:List Value} {a b:Value} (h:l2 (vA Pl) ds ks) (h':AL Pl a b) (hf:fit d a) (hd:∀c ∈ ds,wN dt c):D9 false d dt ds ks a b=true:=by
 unfold D9;rw [KU d a b h' hf,GL h (fun p hp q hq=>abj (hd p hp) hq)];rfl
end
abbrev rq:Int->Int->Prop:=fun _ _=>True
end Pz
end Go.Proofs.YtkdbgopgjbfhbaaGreatDoor
