/- Texts that the claim needs. -/
import Derived.Test.YtcfifbgemfladaaGreatDoorQDPa28
import Derived.Test.YtcfifbgemfladaaGreatDoorQDPa4
import Derived.Deep.CutRange
import Derived.Deep.RegionLaw
namespace Go.Proofs.YtcfifbgemfladaaGreatDoor
open Go.RowKit au Enc aI Go.Lib
set_option linter.unusedVariables false
namespace aI
theorem aeK {a b:List Int} (h:Bd (a++b)):Bd a:=λx hx=>h x (List.mem_append_left _ hx)
theorem LW {a b:List Int} (h:Bd (a++b)):Bd b:=λx hx=>h x (List.mem_append_right _ hx)
theorem TB {B:Nat->List Int}:∀ {n:Nat},Bd (eZ B 0 n)->∀k,0<k->k<=n->Bd (B k)
 | 0,_,k,h1,h2=>by omega
 | n+1,h,k,h1,h2=>by
  have h:Bd (eZ B 0 n++B (0+n+1)):=h;by_cases hk:k=n+1
  ·subst hk;have:=LW h;rwa [Nat.zero_add] at this
  exact TB (aeK h) k h1 (by omega)
theorem NY {x:Mod 81} (hc:ny x=0) {k:Nat} (h1:0<k) (h2:k<=11) (hn:nI x k≠0):Bd (gp x k):=by
 have hb:Bd (mR x):=Mh (NW hc);rw [BV] at hb
 have:=TB (LW hb) k h1 h2
 unfold ll qF at this;rw [AD hn] at this;exact LW this
theorem aeL {n:Nat} (hn:n<=262144):Bd (qH n):=λx hx=>by
 unfold qH at hx;simp only [lI,List.not_mem_nil,or_false] at hx;rcases hx with rfl|rfl|rfl|rfl|rfl<;>omega
theorem Oa:Bd pR:=λx hx=>by
 unfold pR at hx;simp only [lI,List.not_mem_nil,or_false] at hx;rcases hx with rfl|rfl|rfl|rfl|rfl|rfl|rfl|rfl<;>omega
theorem Ol {x:Mod 81} {s:AH} (hc:ny x=0) (hW:tJ x s):∀j,j<=11->Bd (jY x j)
 | 0,_=>by unfold jY;exact ed Oa (λy hy=>by cases hy)
 | j+1,hj=>by
  have ih:=Ol hc hW j (by omega)
  have e:jY x (j+1)=jY x j++ou x (j+1):=by
   unfold jY;show pR++(eZ (ou x) 0 j++ou x (0+j+1))=_;rw [Nat.zero_add,bw]
  rw [e];refine ed ih ?_;unfold ou qF;by_cases hn:nI x (j+1)=0
  ·rw [AE hn];exact λy hy=>by cases hy
  rw [AD hn];have hp:=(hW.pay (j:=j) (by omega) hn).1;refine ed (ed (λy hy=>?_) (aeL (by omega))) (NY hc (by omega) hj hn);rw [List.mem_singleton.1 hy];omega
theorem Jv {x:Mod 81} {s:AH} (hW:tJ x s):∀j,j<=11->(jY x j).length<=pos x j+4*j
 | 0,_=>by show (pR++[]).length<=8+0;decide
 | j+1,hj=>by
  have ih:=Jv hW j (by omega)
  have e:jY x (j+1)=jY x j++ou x (j+1):=by
   unfold jY;show pR++(eZ (ou x) 0 j++ou x (0+j+1))=_;rw [Nat.zero_add,bw]
  rw [e,aT,Hf]
  have h5:(ou x (j+1)).length<=(ll x (j+1)).length+4:=by
   unfold ou ll qF;by_cases hn:nI x (j+1)=0
   ·rw [AE hn,AE hn];omega
   rw [AD hn,AD hn]
   have:=af.Dv ((gp x (j+1)).length:Int)
   simp only [aT,List.length_singleton]
   have:(qH (gp x (j+1)).length).length=5:=rfl
   omega
  omega
end aI
end Go.Proofs.YtcfifbgemfladaaGreatDoor
namespace Go.Proofs.YtcfifbgemfladaaGreatDoor
open Go.RowKit au
set_option linter.unusedVariables false
namespace ai
def qJ (L:List Value) (i:Nat) (v:Value) (_:AG):Prop:=v=L.getD i undef
section
variable {P:Program} {ops:Array Oper} {Q:Exit->Act->AG->Prop} {id:Nat} {a0:Act} {w0:AG}
theorem Ly {a:Act} {lo j:Nat} {L:List Value} (h:a.eval (.tmp (lo+j))=L.getD j undef):a.tmps[j+lo]?.getD undef=L.getD j undef:=by
 rw [Nat.add_comm];exact aB h
theorem yA (n lo size:Nat) (L:List Value) (hm:P.follows .mixedOrders=true) (hT:J8 ops n=true) (hd:DR ops n (λi=>lo+i) size=true) (hs:a0.tmps.size=size)
  (hstep:∀i o a w,i<n->ops[i]?=some o->Fr a0 (λi=>lo+i) n a->Below w0.heap.size w0 w->(∀j ∈ deps o,a.tmps[j+lo]?.getD undef=L.getD j undef)->Does P ops Q (qJ L i) o a w)
  (hend:∀a w,Fr a0 (λi=>lo+i) n a->Below w0.heap.size w0 w->(∀i,i<n->a.eval (.tmp (lo+i))=L.getD i undef)->Q .normal a w) :
  (Code.region id ops true).wp P Q a0 w0 :=
 ZT n (λi=>lo+i) (qJ L) hm hT (λi j _ _ h=>by have h':lo+i=lo+j:=h;omega) (λi hi=>by rw [hs];exact J9 hd i hi) (λ_ _ _ _ _ h _=>h)
  (λi o a w hi ho hF hB hG=>hstep i o a w hi ho hF hB λj hj=>Ly (hG j hj)) (λa w hF hB hG=>hend a w hF hB λi hi=>hG i hi)
theorem adq (n lo size:Nat) (L:List Value) (hn:n<=ops.size) (hd:DR ops n (λi=>lo+i) size=true) (hs:a0.tmps.size=size)
  (hstep:∀i o a w,i<n->ops[i]?=some o->Fr a0 (λi=>lo+i) n a->Below w0.heap.size w0 w->(∀j,j<i->a.tmps[j+lo]?.getD undef=L.getD j undef)->Does P ops Q (qJ L i) o a w)
  (cO:∀a w,Fr a0 (λi=>lo+i) n a->Below w0.heap.size w0 w->(∀i,i<n->a.eval (.tmp (lo+i))=L.getD i undef)->wpList P ops Q (ops.toList.drop n) a w) :
  (Code.region id ops false).wp P Q a0 w0 :=
 Pt n (λi=>lo+i) (qJ L) hn (λi j _ _ h=>by have h':lo+i=lo+j:=h;omega) (λi hi=>by rw [hs];exact J9 hd i hi) (λ_ _ _ _ _ h _=>h)
  (λi o a w hi ho hF hB hG=>hstep i o a w hi ho hF hB λj hj=>Ly (hG j (List.mem_range.2 hj))) (λa w hF hB hG=>cO a w hF hB λi hi=>hG i hi)
theorem Ur (n lo z size:Nat) (L:List Value) (hn:n<=ops.size) (hd:DR ops n (λi=>if i<n-1 then lo+i else z) size=true) (hs:a0.tmps.size=size) (hz:z<lo/\0<n)
  (hstep:∀i o a w,i<n->ops[i]?=some o->Fr a0 (λi=>if i<n-1 then lo+i else z) n a->Below w0.heap.size w0 w->(∀j,j<i->a.tmps[j+lo]?.getD undef=L.getD j undef)->Does P ops Q (qJ L i) o a w)
  (cO:∀a w,Fr a0 (λi=>if i<n-1 then lo+i else z) n a->Below w0.heap.size w0 w->a.eval (.tmp z)=L.getD (n-1) undef->wpList P ops Q (ops.toList.drop n) a w) :
  (Code.region id ops false).wp P Q a0 w0 :=
 Pt n (λi=>if i<n-1 then lo+i else z) (qJ L) hn (λi j h1 h2 h=>by have h':(if i<n-1 then lo+i else z)=(if j<n-1 then lo+j else z):=h;split at h'<;>split at h'<;>omega) (λi hi=>by rw [hs];exact J9 hd i hi) (λ_ _ _ _ _ h _=>h)
  (λi o a w hi ho hF hB hG=>hstep i o a w hi ho hF hB λj hj=>by
   have h:=hG j (List.mem_range.2 hj);have e:(if j<n-1 then lo+j else z)=lo+j:=AE (by omega);rw [e] at h;exact Ly h)
  (λa w hF hB hG=>cO a w hF hB (by
   have h:=hG (n-1) (by omega);have e:(if n-1<n-1 then lo+(n-1) else z)=z:=AD (by omega);rw [e] at h;exact h))
theorem wI {p:Value->AG->Prop} {o oj:Oper} {a:Act} {w:AG} {j lo:Nat} {b:Bool} {L:List Value} (hg:o.guard=some (j,b)) (hj:ops[j]?=some oj) (hk:oj.dst=some (j+lo)) (hb:L.getD j undef=.bool b) (hd:a.tmps[j+lo]?.getD undef=L.getD j undef) (h:o.wp P a w (λa' w'=>∃v,a'=a.put o.dst v/\Below w.heap.size w w'/\p v w') Q):Does P ops Q p o a w :=
 Does.wanted hg hj hk (by show a.tmps.getD (j+lo) undef=_;rw [Array.getD_eq_getD_getElem?,hd,hb]) h
end
end ai
end Go.Proofs.YtcfifbgemfladaaGreatDoor
namespace Go.Proofs.YtcfifbgemfladaaGreatDoor
open Go.RowKit au Go.Proofs.Tryz
set_option linter.unusedVariables false
set_option maxRecDepth 100000
set_option maxHeartbeats 32000000
namespace au
theorem MR {α:Type} {f:α->α->Bool} (hf:∀x,f x x=true):∀l,rJ f l l=true
 | []=>rfl
 | x :: r=>by unfold rJ qI;rw [MR hf r,hf,hf];simp
theorem FP:∀(d:Nat) (l:IL d),mD d l l=true
 | 0,_=>rfl
 | d+1,l=>MR (FP d) l
theorem IA {d:Nat} (x:Ins (IL d)):qI (mD d) x x=true:=by unfold qI;rw [FP,FP];simp
theorem C9 {w w':AG} (h:∃n,w'=w.drewN n):Below w.heap.size w w':=by obtain ⟨n,rfl⟩:=h;exact mE w n
end au
theorem Uq (d:Nat) (v0 v1 v2 v3 v4 v5 v6 v7 v8 v9 u0 u1 u2 u3 u4 u5 u6 u7 u8 u9:Value) (m:Mod d) (w:AG) (hM:iG w d v0 v1 v2 v3 v4 v5 v6 v7 v8 v9 m) (hK:iG w d u0 u1 u2 u3 u4 u5 u6 u7 u8 u9 m):Calls prog 25 #[.agg #[v0,v1,v2,v3,v4,v5,v6,v7,v8,v9],.agg #[u0,u1,u2,u3,u4,u5,u6,u7,u8,u9]] w (λe w'=>e=.returned (.bool true)/\Below w.heap.size w w'):=by
 obtain ⟨o0,k0,rfl⟩:=Row.len hM.types;obtain ⟨o1,k1,rfl⟩:=Row.len hM.imports;obtain ⟨o2,k2,rfl⟩:=Row.len hM.funcs;obtain ⟨o3,k3,rfl⟩:=Row.len hM.tables;obtain ⟨o4,k4,rfl⟩:=Row.len hM.aF;obtain ⟨o5,k5,rfl⟩:=Row.len hM.globals;obtain ⟨o6,k6,rfl⟩:=Row.len hM.exports;obtain ⟨o7,k7,rfl⟩:=Row.len hM.start;obtain ⟨o8,k8,rfl⟩:=Row.len hM.elems;obtain ⟨o9,k9,rfl⟩:=Row.len hM.aA;obtain ⟨g0,h0,rfl⟩:=Row.len hK.types;obtain ⟨g1,h1,rfl⟩:=Row.len hK.imports;obtain ⟨g2,h2,rfl⟩:=Row.len hK.funcs;obtain ⟨g3,h3,rfl⟩:=Row.len hK.tables;obtain ⟨g4,h4,rfl⟩:=Row.len hK.aF;obtain ⟨g5,h5,rfl⟩:=Row.len hK.globals;obtain ⟨g6,h6,rfl⟩:=Row.len hK.exports;obtain ⟨g7,h7,rfl⟩:=Row.len hK.start;obtain ⟨g8,h8,rfl⟩:=Row.len hK.elems;obtain ⟨g9,h9,rfl⟩:=Row.len hK.aA;have HM:=aa hM;have HK:=aa hK;clear hM hK;generalize hn0:m.types.length=n0 at *;generalize ju:m.imports.length=n1 at *;generalize fV:m.funcs.length=n2 at *;generalize lW:m.tables.length=n3 at *;generalize jQ:m.aF.length=n4 at *;generalize lK:m.globals.length=n5 at *;generalize lL:m.exports.length=n6 at *;generalize jd:m.start.length=n7 at *;generalize lh:m.elems.length=n8 at *;generalize lM:m.aA.length=n9 at *;go_enter func25,ntmps25;go_upto_region 1 with fail;obtain ⟨u1,hu1⟩:∃u1,u1=(w.alloc (.cells #[.slice o0 n0 k0,.slice o1 n1 k1,.slice o2 n2 k2,.slice o3 n3 k3,.slice o4 n4 k4,.slice o5 n5 k5,.slice o6 n6 k6,.slice o7 n7 k7,.slice o8 n8 k8,.slice o9 n9 k9] 32)).alloc (.cells #[.slice g0 n0 h0,.slice g1 n1 h1,.slice g2 n2 h2,.slice g3 n3 h3,.slice g4 n4 h4,.slice g5 n5 h5,.slice g6 n6 h6,.slice g7 n7 h7,.slice g8 n8 h8,.slice g9 n9 h9] 32):=⟨_,rfl⟩;have HP:Hid (gW u1 w.heap.size (.slice o0 n0 k0) (.slice o1 n1 k1) (.slice o2 n2 k2) (.slice o3 n3 k3) (.slice o4 n4 k4) (.slice o5 n5 k5) (.slice o6 n6 k6) (.slice o7 n7 k7) (.slice o8 n8 k8) (.slice o9 n9 k9)):=aa (by rw [hu1];exact (gW.new rfl).on (aQ _ _));have HQ:Hid (gW u1 (w.heap.size+1) (.slice g0 n0 h0) (.slice g1 n1 h1) (.slice g2 n2 h2) (.slice g3 n3 h3) (.slice g4 n4 h4) (.slice g5 n5 h5) (.slice g6 n6 h6) (.slice g7 n7 h7) (.slice g8 n8 h8) (.slice g9 n9 h9)):=aa (by rw [hu1];exact gW.new (by simp));have HU:Hid (Below w.heap.size w u1):=aa (by rw [hu1];exact dM (aQ _ _) (aQ _ _));have mW:=aa (HM.out.on HU.out);have mX:=aa (HK.out.on HU.out);rw [<- hu1];clear hu1;obtain ⟨p2,hp2⟩:∃p2,p2=w.heap.size+1:=⟨_,rfl⟩;rw [<- hp2] at HQ ⊢;clear hp2;generalize hp1:w.heap.size=p1 at HP ⊢;simp only [List.append_eq,iy,fN];refine ai.Ur 87 5 4 91 [.pointer (some ⟨p1,0,none⟩),.slice o0 n0 k0,.int .i64 (n0:Nat),.pointer (some ⟨p2,0,none⟩),.slice g0 n0 h0,.int .i64 (n0:Nat),.bool true,.bool true,.pointer (some ⟨p1,1,none⟩),.slice o1 n1 k1,.int .i64 (n1:Nat),.pointer (some ⟨p2,1,none⟩),.slice g1 n1 h1,.int .i64 (n1:Nat),.bool true,.bool true,.bool true,.pointer (some ⟨p1,2,none⟩),.slice o2 n2 k2,.int .i64 (n2:Nat),.pointer (some ⟨p2,2,none⟩),.slice g2 n2 h2,.int .i64 (n2:Nat),.bool true,.bool true,.bool true,.pointer (some ⟨p1,3,none⟩),.slice o3 n3 k3,.int .i64 (n3:Nat),.pointer (some ⟨p2,3,none⟩),.slice g3 n3 h3,.int .i64 (n3:Nat),.bool true,.bool true,.bool true,.pointer (some ⟨p1,4,none⟩),.slice o4 n4 k4,.int .i64 (n4:Nat),.pointer (some ⟨p2,4,none⟩),.slice g4 n4 h4,.int .i64 (n4:Nat),.bool true,.bool true,.bool true,.pointer (some ⟨p1,5,none⟩),.slice o5 n5 k5,.int .i64 (n5:Nat),.pointer (some ⟨p2,5,none⟩),.slice g5 n5 h5,.int .i64 (n5:Nat),.bool true,.bool true,.bool true,.pointer (some ⟨p1,6,none⟩),.slice o6 n6 k6,.int .i64 (n6:Nat),.pointer (some ⟨p2,6,none⟩),.slice g6 n6 h6,.int .i64 (n6:Nat),.bool true,.bool true,.bool true,.pointer (some ⟨p1,7,none⟩),.slice o7 n7 k7,.pointer (some ⟨p2,7,none⟩),.slice g7 n7 h7,.bool true,.bool true,.bool true,.pointer (some ⟨p1,8,none⟩),.slice o8 n8 k8,.int .i64 (n8:Nat),.pointer (some ⟨p2,8,none⟩),.slice g8 n8 h8,.int .i64 (n8:Nat),.bool true,.bool true,.bool true,.pointer (some ⟨p1,9,none⟩),.slice o9 n9 k9,.int .i64 (n9:Nat),.pointer (some ⟨p2,9,none⟩),.slice g9 n9 h9,.int .i64 (n9:Nat),.bool true,.bool true,.bool true] (by simp) (by kernel_rfl) rfl (by decide) ?hstep ?cO
 case hstep =>
  intro i o a w hi ho hF hB hd;have f2:a.tmps[2]?.getD undef=.pointer (some ⟨p1,0,none⟩):=ai.aB (hF.eval 2 (λi hi=>by show (if i<86 then 5+i else 4)≠2;split<;>omega))
  have f3:a.tmps[3]?.getD undef=.pointer (some ⟨p2,0,none⟩):=ai.aB (hF.eval 3 (λi hi=>by show (if i<86 then 5+i else 4)≠3;split<;>omega))
  have c0:=(HP.out.on hB).cell 0 _ rfl;have c1:=(HP.out.on hB).cell 1 _ rfl;have c2:=(HP.out.on hB).cell 2 _ rfl;have c3:=(HP.out.on hB).cell 3 _ rfl;have c4:=(HP.out.on hB).cell 4 _ rfl;have c5:=(HP.out.on hB).cell 5 _ rfl;have c6:=(HP.out.on hB).cell 6 _ rfl;have c7:=(HP.out.on hB).cell 7 _ rfl;have c8:=(HP.out.on hB).cell 8 _ rfl;have c9:=(HP.out.on hB).cell 9 _ rfl;have d0:=(HQ.out.on hB).cell 0 _ rfl;have d1:=(HQ.out.on hB).cell 1 _ rfl;have d2:=(HQ.out.on hB).cell 2 _ rfl;have d3:=(HQ.out.on hB).cell 3 _ rfl;have d4:=(HQ.out.on hB).cell 4 _ rfl;have d5:=(HQ.out.on hB).cell 5 _ rfl;have d6:=(HQ.out.on hB).cell 6 _ rfl;have d7:=(HQ.out.on hB).cell 7 _ rfl;have d8:=(HQ.out.on hB).cell 8 _ rfl;have d9:=(HQ.out.on hB).cell 9 _ rfl
  iterate 87 (rcases Nat.lt_succ_iff_lt_or_eq.1 hi with hi|rfl)
  exact absurd hi (Nat.not_lt_zero _)
  all_goals (
   simp only [gz,gU,gV,gN] at ho;subst ho
   first
   | refine ai.Does.go rfl (ai.aO λK hK=>?_)
   | refine ai.wI rfl rfl rfl rfl (hd _ (by decide)) (ai.aO λK hK=>?_)
   go_simp
   first|exact hK _ _ ⟨_,rfl,AC _ _,rfl⟩|(refine (BI _ _ _ _ w ((mW.out.on hB).start) ((mX.out.on hB).start)).mono ?_;rintro e w' ⟨rfl,hw⟩;exact hK _ _ ⟨_,rfl,au.C9 hw,by simp [ai.qJ]⟩))
 case cO =>
  intro a w2 hF hB hG;have gl:a.eval (.tmp 4)=.bool true:=hG;have HW:=aa (dM HU.out hB);rw [BJ (by simp)];refine wpList_nil ?_;go_wp2_with fail;refine bodyPost_ret (v:=.bool true) ((results_tmp rfl _ _ _).trans (congrArg (λv=>Result.ok v w2) gl)) hF.defers ⟨rfl,hp1 ▸ HW.out⟩
end Go.Proofs.YtcfifbgemfladaaGreatDoor
