/- Texts that the claim needs. -/
import Derived.Test.YtegboefdolfdgaaGreatDoorQDM5
import Derived.Test.YtegboefdolfdgaaGreatDoorQDM1
import Derived.Test.YtegboefdolfdgaaGreatDoorQDM30
import Derived.Deep.CutRange
import Derived.Deep.Cut
import Derived.Deep.RegionWith
import Derived.Deep.RegionLaw
namespace Go.Proofs.YtegboefdolfdgaaGreatDoor
open Go.RowKit aA
set_option linter.unusedVariables false
set_option maxRecDepth 100000
set_option maxHeartbeats 32000000
namespace aA
def Sub (w w':World):Prop:=∀b o u,w.cell? ⟨b,o,none⟩=.some u->w'.cell? ⟨b,o,none⟩=.some u
theorem Sub.refl (w:World):Sub w w:=fun _ _ _ h=>h
theorem Sub.trans {w1 w2 w3:World} (h:Sub w1 w2) (h':Sub w2 w3):Sub w1 w3:=fun b o u e=>h' b o u (h b o u e)
section On
variable {w w':World} (hb:Sub w w')
include hb
theorem Ints.sub {v:Value} {l:List Int} (h:Ints w v l):Ints w' v l:=Row.imp h fun _ _ _ _ h=>hb _ _ _ h
theorem mQ.sub {α : Type} {f g : Value → α → Prop} (hfg : ∀ v x, f v x → g v x) {b o : Nat} {x : Ins α} (h : mQ w f b o x) : mQ w' g b o x :=
  ⟨hb _ _ _ h.op, hb _ _ _ h.a, hb _ _ _ h.b, hb _ _ _ h.n,
   let ⟨v, h1, h2⟩ := h.labels; ⟨v, hb _ _ _ h1, h2.sub hb⟩,
   let ⟨v, h1, h2⟩ := h.body; ⟨v, hb _ _ _ h1, hfg _ _ h2⟩,
   let ⟨v, h1, h2⟩ := h.els; ⟨v, hb _ _ _ h1, hfg _ _ h2⟩⟩
theorem At.sub:∀(d:Nat) (v:Value) (l:IL d),At w d v l->At w' d v l
 | 0,_,_,h=>h
 | d+1,_,_,h=>Row.imp (α:=Ins (IL d)) h fun _ _ _ _ h=>h.sub hb (At.sub d)
theorem sM.sub {bk o:Nat} {x:FT} (h:sM w bk o x):sM w' bk o x :=
 ⟨let ⟨v,a,b⟩:=h.params;⟨v,hb _ _ _ a,b.sub hb⟩,let ⟨v,a,b⟩:=h.results;⟨v,hb _ _ _ a,b.sub hb⟩⟩
theorem qO.sub {bk o:Nat} {x:lK} (h:qO w bk o x):qO w' bk o x:=⟨hb _ _ _ h.mod,hb _ _ _ h.name,hb _ _ _ h.type⟩
theorem sN.sub {d bk o:Nat} {x:uF d} (h:sN w d bk o x):sN w' d bk o x :=
 ⟨hb _ _ _ h.type,let ⟨v,a,b⟩:=h.locals;⟨v,hb _ _ _ a,b.sub hb⟩,let ⟨v,a,b⟩:=h.body;⟨v,hb _ _ _ a,At.sub hb d v _ b⟩⟩
theorem oK.sub {bk o:Nat} {x:iL} (h:oK w bk o x):oK w' bk o x:=⟨hb _ _ _ h.min,hb _ _ _ h.max,hb _ _ _ h.has⟩
theorem sO.sub {d bk o:Nat} {x:lL d} (h:sO w d bk o x):sO w' d bk o x:=⟨hb _ _ _ h.type,hb _ _ _ h.fT,h.init.sub hb (At.sub hb d)⟩
theorem qP.sub {bk o:Nat} {x:lM} (h:qP w bk o x):qP w' bk o x:=⟨hb _ _ _ h.name,hb _ _ _ h.kind,hb _ _ _ h.index⟩
theorem sP.sub {d bk o:Nat} {x:kZ d} (h:sP w d bk o x):sP w' d bk o x:=⟨h.offset.sub hb (At.sub hb d),let ⟨v,a,b⟩:=h.funcs;⟨v,hb _ _ _ a,b.sub hb⟩⟩
theorem sQ.sub {d bk o:Nat} {x:Dat d} (h:sQ w d bk o x):sQ w' d bk o x:=⟨h.offset.sub hb (At.sub hb d),hb _ _ _ h.bytes⟩
end On
def only (w:World) (S:Nat->Bool):World:={ w with heap:=w.heap.mapIdx fun i x=>if S i then x else .cells #[] 0 (0,0) }
structure Piece {α:Type} (R:World) (c:Nat) (f:World->Nat->Nat->α->Prop) (x:α) (cs:List Value):Prop where
 len:cs.length=c
 one:∀u ∈ cs,u.oneCell'=true
 lay:∀R' b o,Sub R R'->(∀k u,cs[k]?=.some u->R'.cell? ⟨b,o+k,none⟩=.some u)->f R' b o x
theorem Piece.sub {α:Type} {R R2:World} {c:Nat} {f:World->Nat->Nat->α->Prop} {x:α} {cs:List Value} (h:Piece R c f x cs) (hs:Sub R R2):Piece R2 c f x cs :=
 ⟨h.len,h.one,fun R' b o h' hc=>h.lay R' b o (hs.trans h') hc⟩
section App
variable {P:Program}
end App
end aA
namespace aA
def fo (w:World) (b:Nat) (c0 c1 c2 c3 c4 c5 c6 c7 c8 c9:Value):Prop:=w.heap[b]?=some (.cells #[c0,c1,c2,c3,c4,c5,c6,c7,c8,c9] 33 (0,0))
section cF
variable {w w':World} {b:Nat} {c0 c1 c2 c3 c4 c5 c6 c7 c8 c9:Value}
theorem fo.cell (h:fo w b c0 c1 c2 c3 c4 c5 c6 c7 c8 c9) (i:Nat) (v:Value) (hv:#[c0,c1,c2,c3,c4,c5,c6,c7,c8,c9][i]?=some v):w.cell? ⟨b,i,none⟩=some v:=by
 unfold World.cell?;rw [h];exact hv
theorem fo.ag (h:fo w b c0 c1 c2 c3 c4 c5 c6 c7 c8 c9) (i:Nat):w.frozen? ⟨b,i,none⟩=false:=by
 unfold World.frozen?;rw [h];simp
theorem fo.keep (h:fo w b c0 c1 c2 c3 c4 c5 c6 c7 c8 c9) (hk:w'.heap[b]?=w.heap[b]?):fo w' b c0 c1 c2 c3 c4 c5 c6 c7 c8 c9:=by unfold fo at *;rw [hk];exact h
theorem fo.lt (h:fo w b c0 c1 c2 c3 c4 c5 c6 c7 c8 c9):b<w.heap.size:=(Array.getElem?_eq_some_iff.1 h).1
theorem fo.on (h:fo w b c0 c1 c2 c3 c4 c5 c6 c7 c8 c9) (hb:Below w.heap.size w w'):fo w' b c0 c1 c2 c3 c4 c5 c6 c7 c8 c9:=h.keep (hb.block b h.lt)
theorem fo.new (hp:b=w.heap.size):fo (w.alloc (.cells #[c0,c1,c2,c3,c4,c5,c6,c7,c8,c9] 33)) b c0 c1 c2 c3 c4 c5 c6 c7 c8 c9:=by
 subst hp;exact heap_alloc_new w _
theorem fo.set2 (h:fo w b c0 c1 c2 c3 c4 c5 c6 c7 c8 c9) (v:Value):fo (w.setCell ⟨b,2,none⟩ v) b c0 c1 v c3 c4 c5 c6 c7 c8 c9:=heap_setCell_same w b 2 _ _ v h
theorem fo.pW (h:fo w b c0 c1 c2 c3 c4 c5 c6 c7 c8 c9) (v:Value):fo (w.setCell ⟨b,5,none⟩ v) b c0 c1 c2 c3 c4 v c6 c7 c8 c9:=heap_setCell_same w b 5 _ _ v h
end cF
end aA
namespace af
def lJ (L:List Value) (i:Nat) (v:Value) (_:World):Prop:=v=L.getD i undef
section
variable {P:Program} {ops:Array Oper} {Q:Exit->Act->World->Prop} {id:Nat} {a0:Act} {w0:World}
theorem EH {a:Act} {lo j:Nat} {L:List Value} (h:a.eval (.tmp (lo+j))=L.getD j undef):a.tmps[j+lo]?.getD undef=L.getD j undef:=by
 rw [Nat.add_comm];exact av h
theorem rV (n lo size:Nat) (L:List Value) (hm:P.follows .mixedOrders=true) (hT:Dq ops n=true) (hd:yu ops n (fun i=>lo+i) size=true) (hs:a0.tmps.size=size)
  (hstep:∀i o a w,i<n->ops[i]?=some o->Fr a0 (fun i=>lo+i) n a->Below w0.heap.size w0 w->(∀j ∈ deps o,a.tmps[j+lo]?.getD undef=L.getD j undef)->Does P ops Q (lJ L i) o a w)
  (hend:∀a w,Fr a0 (fun i=>lo+i) n a->Below w0.heap.size w0 w->(∀i,i<n->a.eval (.tmp (lo+i))=L.getD i undef)->Q .normal a w) :
  (Code.region id ops true).wp P Q a0 w0 :=
 P6 n (fun i=>lo+i) (lJ L) hm hT (fun i j _ _ h=>by have h':lo+i=lo+j:=h;omega) (fun i hi=>by rw [hs];exact Dr hd i hi) (fun _ _ _ _ _ h _=>h)
  (fun i o a w hi ho hF hB hG=>hstep i o a w hi ho hF hB fun j hj=>EH (hG j hj)) (fun a w hF hB hG=>hend a w hF hB fun i hi=>hG i hi)
theorem TM (n lo size:Nat) (L:List Value) (hn:n<=ops.size) (hd:yu ops n (fun i=>lo+i) size=true) (hs:a0.tmps.size=size)
  (hstep:∀i o a w,i<n->ops[i]?=some o->Fr a0 (fun i=>lo+i) n a->Below w0.heap.size w0 w->(∀j,j<i->a.tmps[j+lo]?.getD undef=L.getD j undef)->Does P ops Q (lJ L i) o a w)
  (fu:∀a w,Fr a0 (fun i=>lo+i) n a->Below w0.heap.size w0 w->(∀i,i<n->a.eval (.tmp (lo+i))=L.getD i undef)->wpList P ops Q (ops.toList.drop n) a w) :
  (Code.region id ops false).wp P Q a0 w0 :=
 GR n (fun i=>lo+i) (lJ L) hn (fun i j _ _ h=>by have h':lo+i=lo+j:=h;omega) (fun i hi=>by rw [hs];exact Dr hd i hi) (fun _ _ _ _ _ h _=>h)
  (fun i o a w hi ho hF hB hG=>hstep i o a w hi ho hF hB fun j hj=>EH (hG j (List.mem_range.2 hj))) (fun a w hF hB hG=>fu a w hF hB fun i hi=>hG i hi)
theorem Lp (n lo z size:Nat) (L:List Value) (hn:n<=ops.size) (hd:yu ops n (fun i=>if i<n-1 then lo+i else z) size=true) (hs:a0.tmps.size=size) (hz:z<lo/\0<n)
  (hstep:∀i o a w,i<n->ops[i]?=some o->Fr a0 (fun i=>if i<n-1 then lo+i else z) n a->Below w0.heap.size w0 w->(∀j,j<i->a.tmps[j+lo]?.getD undef=L.getD j undef)->Does P ops Q (lJ L i) o a w)
  (fu:∀a w,Fr a0 (fun i=>if i<n-1 then lo+i else z) n a->Below w0.heap.size w0 w->a.eval (.tmp z)=L.getD (n-1) undef->wpList P ops Q (ops.toList.drop n) a w) :
  (Code.region id ops false).wp P Q a0 w0 :=
 GR n (fun i=>if i<n-1 then lo+i else z) (lJ L) hn (fun i j h1 h2 h=>by have h':(if i<n-1 then lo+i else z)=(if j<n-1 then lo+j else z):=h;split at h'<;>split at h'<;>omega) (fun i hi=>by rw [hs];exact Dr hd i hi) (fun _ _ _ _ _ h _=>h)
  (fun i o a w hi ho hF hB hG=>hstep i o a w hi ho hF hB fun j hj=>by
   have h:=hG j (List.mem_range.2 hj);have e:(if j<n-1 then lo+j else z)=lo+j:=if_pos (by omega);rw [e] at h;exact EH h)
  (fun a w hF hB hG=>fu a w hF hB (by
   have h:=hG (n-1) (by omega);have e:(if n-1<n-1 then lo+(n-1) else z)=z:=if_neg (by omega);rw [e] at h;exact h))
theorem qa {p:Value->World->Prop} {o oj:Oper} {a:Act} {w:World} {j lo:Nat} {b:Bool} {L:List Value} (hg:o.guard=some (j,b)) (hj:ops[j]?=some oj) (hk:oj.dst=some (j+lo)) (hb:L.getD j undef=.bool b) (hd:a.tmps[j+lo]?.getD undef=L.getD j undef) (h:o.wp P a w (fun a' w'=>∃v,a'=a.put o.dst v/\Below w.heap.size w w'/\p v w') Q):Does P ops Q p o a w :=
 Does.wanted hg hj hk (by show a.tmps.getD (j+lo) undef=_;rw [Array.getD_eq_getD_getElem?,hd,hb]) h
end
end af
namespace aA
theorem TH {α:Type} [DecidableEq α] {a b:List α} {j:Nat} {x y:α} {R:Bool} (hx:a[j]?=some x) (hy:b[j]?=some y) (h:R=decide (a.drop j=b.drop j)):R=(decide (x=y) && decide (a.drop (j+1)=b.drop (j+1))):=by
 have hl:j<a.length:=(List.getElem?_eq_some_iff.1 hx).1;have he:a[j]=x:=(List.getElem?_eq_some_iff.1 hx).2;have hl2:j<b.length:=(List.getElem?_eq_some_iff.1 hy).1;have he2:b[j]=y:=(List.getElem?_eq_some_iff.1 hy).2;rw [h,List.drop_eq_getElem_cons hl,he,List.drop_eq_getElem_cons hl2,he2,<- Bool.decide_and];simp only [List.cons.injEq]
end aA
theorem vU (va vb:Value) (a b:List Int) (w:World) (hA:Ints w va a) (hB:Ints w vb b) :
  Calls Tryz.prog 21 #[va,vb] w fun e w'=>e=.returned (.bool (decide (a=b)))/\∃n,w'=w.drewN n:=by
 have la:=hA.1;have lb:=hB.1;obtain ⟨oa,ca,rfl⟩:=Row.len hA;obtain ⟨ob,cb,rfl⟩:=Row.len hB;have HA:=aa hA;have HB:=aa hB;obtain ⟨R,hR⟩:∃R,R=decide (a=b):=⟨_,rfl⟩;rw [<- hR];have HR:Hid (R=decide (a.drop 0=b.drop 0)):=hR;have HL:Hid (a.length≠b.length->R=false):=aa (fun h=>by rw [hR,decide_eq_false (fun e=>h (by rw [e]))]);clear hA hB hR;generalize hn:a.length=n at *;generalize hm:b.length=k at *;by_cases hne:n=k;rotate_left
 ·obtain rfl:=HL.out hne;have hne':((n:Int) != (k:Int))=true:=by rw [bne_iff_ne];omega
  clear HR HL;go_enter Tryz.func21,Tryz.ntmps21;go_wp2;go_ret;exact ⟨rfl,0,rfl⟩
 subst hne;clear HL;go_enter Tryz.func21,Tryz.ntmps21;go_wp2_with fail;go_loopw [5] (fun i wr=>∃j q:Nat,j<=n/\i=.int .i64 j/\Hid (R=decide (a.drop j=b.drop j))/\wr=w.drewN q) (fun i _=>n-(RowKit.intOf i).toNat)
 case atStart=>exact ⟨0,0,by omega,rfl,HR,rfl⟩
 case round =>
  obtain ⟨j,q,hj,rfl,HK,rfl⟩:=hrel;by_cases hgo:j<n
  ·obtain ⟨b1,bE,qI,hv1,hx1⟩:=Row.some HA.out (by omega);injection hv1 with jb e11 e12;subst jb;obtain ⟨b2,bF,cap2,hv2,hx2⟩:=Row.some HB.out (by omega);injection hv2 with jc jd je;subst jc;obtain ⟨x,hxk⟩:∃x,a[j]?=some x:=⟨_,List.getElem?_eq_getElem (by omega)⟩;obtain ⟨y,hyk⟩:∃y,b[j]?=some y:=⟨_,List.getElem?_eq_getElem (by omega)⟩;have k1:=hx1 j x hxk;have k2:=hx2 j y hyk;rw [Nat.mul_one] at k1 k2;have HN:=aa (TH hxk hyk HK.out);clear hx1 hx2 hxk hyk HK e11 e12 jd je;go_upto_region 6 with fail;go_quiet (fail);by_cases hxy:x=y
   ·subst hxy;have cJ:Hid (R=decide (a.drop (j+1)=b.drop (j+1))):=aa (by rw [HN.out,decide_eq_true rfl,Bool.true_and]);clear HN;go_wp2;go_roundw
    case rel=>exact ⟨j+1,q+nq,by omega,by go_num,cJ,by first|rfl|(rw [World.drewN_drewN])⟩
    case measure=>simp [RowKit.intOf];omega
   ·obtain rfl:R=false:=by rw [HN.out,decide_eq_false hxy];rfl
    have VX:(x != y)=true:=by rw [bne_iff_ne];exact hxy
    clear HN;go_wp2;go_ret;exact ⟨rfl,q+nq,by first|rfl|(rw [World.drewN_drewN])⟩
  ·obtain rfl:R=true:=by rw [HK.out,List.drop_of_length_le (by omega),List.drop_of_length_le (by omega)];rfl
   clear HK;go_wp2;go_ret;exact ⟨rfl,q,rfl⟩
namespace aA
def nE {α:Type} (f:α->α->Bool) (x y:Ins α):Bool:=decide (x.op=y.op) && (decide (x.a=y.a) && (decide (x.b=y.b) && (decide (x.n=y.n) && (decide (x.labels=y.labels) && (f x.body y.body && f x.els y.els)))))
def mP {α:Type} (f:α->α->Bool):List (Ins α)->List (Ins α)->Bool
 | [],[]=>true
 | x :: r,y :: s=>nE f x y && mP f r s
 | _,_=>false
def jO:(d:Nat)->IL d->IL d->Bool
 | 0,_,_=>true
 | d+1,l,k=>mP (jO d) l k
theorem K5 {α:Type} {f:α->α->Bool}:∀(l k:List (Ins α)),l.length≠k.length->mP f l k=false
 | [],[],h=>absurd rfl h
 | [],_ :: _,_=>rfl
 | _ :: _,[],_=>rfl
 | x :: r,y :: s,h=>by
  show (nE f x y && mP f r s)=false;rw [K5 r s (by simpa using h),Bool.and_false]
theorem UE {α:Type} {f:α->α->Bool} {a b:List (Ins α)} {j:Nat} {x y:Ins α} {R:Bool} (hx:a[j]?=some x) (hy:b[j]?=some y) (h:R=mP f (a.drop j) (b.drop j)):R=(nE f x y && mP f (a.drop (j+1)) (b.drop (j+1))):=by
 have hl:j<a.length:=(List.getElem?_eq_some_iff.1 hx).1;have he:a[j]=x:=(List.getElem?_eq_some_iff.1 hx).2;have hl2:j<b.length:=(List.getElem?_eq_some_iff.1 hy).1;have he2:b[j]=y:=(List.getElem?_eq_some_iff.1 hy).2;rw [h,List.drop_eq_getElem_cons hl,he,List.drop_eq_getElem_cons hl2,he2];rfl
structure kY (b:Nat) (v0 v1 v2 v3 v4 v5 v6:Value) (u:World):Prop where
 c0:u.cell? ⟨b,0,none⟩=some v0
 c1:u.cell? ⟨b,1,none⟩=some v1
 c2:u.cell? ⟨b,2,none⟩=some v2
 c3:u.cell? ⟨b,3,none⟩=some v3
 c4:u.cell? ⟨b,4,none⟩=some v4
 c5:u.cell? ⟨b,5,none⟩=some v5
 c6:u.cell? ⟨b,6,none⟩=some v6
theorem kY.on {u u':World} (hb:Below u.heap.size u u') {b:Nat} {v0 v1 v2 v3 v4 v5 v6:Value} (h:kY b v0 v1 v2 v3 v4 v5 v6 u):kY b v0 v1 v2 v3 v4 v5 v6 u' :=
 ⟨aF hb h.c0,aF hb h.c1,aF hb h.c2,aF hb h.c3,aF hb h.c4,aF hb h.c5,aF hb h.c6⟩
theorem kY.new (w:World) (t:TypeId) (b:Nat) (v0 v1 v2 v3 v4 v5 v6:Value) (hb:b=w.heap.size):kY b v0 v1 v2 v3 v4 v5 v6 (w.alloc (.cells #[v0,v1,v2,v3,v4,v5,v6] t)):=by
 refine ⟨?_,?_,?_,?_,?_,?_,?_⟩<;>(rw [World.cell?_alloc_at _ t _ _ hb];rfl)
end aA
def K6 (d:Nat):Prop:=∀(va vb:Value) (a b:IL d) (w:World),At w d va a->At w d vb b ->
  Calls Tryz.prog 22 #[va,vb] w fun e w'=>e=.returned (.bool (jO d a b))/\Below w.heap.size w w'
theorem UF (oa ob:Option Addr) (n k ca cb:Nat) (w:World) (hn:n<=9223372036854775807) (hk:k<=9223372036854775807) (hne:n≠k) :
  Calls Tryz.prog 22 #[.slice oa n ca,.slice ob k cb] w fun e w'=>e=.returned (.bool false)/\w'=w:=by
 have hne':((n:Int) != (k:Int))=true:=by rw [bne_iff_ne];omega
 go_enter Tryz.func22,Tryz.ntmps22;go_wp2;go_ret;exact ⟨rfl,rfl⟩
theorem UG (oa ob:Option Addr) (ca cb:Nat) (w:World) :
  Calls Tryz.prog 22 #[.slice oa 0 ca,.slice ob 0 cb] w fun e w'=>e=.returned (.bool true)/\w'=w:=by
 go_enter Tryz.func22,Tryz.ntmps22;go_wp2_with fail;go_loopw [5] (fun i wr=>i=.int .i64 0/\wr=w) (fun _ _=>0)
 case atStart=>exact ⟨rfl,rfl⟩
 case round =>
  obtain ⟨rfl,rfl⟩:=hrel;go_wp2;go_ret;exact ⟨rfl,rfl⟩
theorem UH (d:Nat) (IH:K6 d) (va vb:Value) (a b:List (Ins (IL d))) (w:World) (hA:Row 7 (mQ w (At w d)) va a) (hB:Row 7 (mQ w (At w d)) vb b) :
  Calls Tryz.prog 22 #[va,vb] w fun e w'=>e=.returned (.bool (mP (jO d) a b))/\Below w.heap.size w w':=by
 have la:=hA.1;have lb:=hB.1;obtain ⟨oa,ca,rfl⟩:=Row.len hA;obtain ⟨ob,cb,rfl⟩:=Row.len hB;by_cases hne:a.length=b.length;rotate_left
 ·rw [K5 _ _ hne];exact (UF oa ob _ _ ca cb w la lb hne).mono fun e w' ⟨h1,h2⟩=>⟨h1,by rw [h2];exact Below.refl _ _⟩
 have HA:=aa hA;have HB:=aa hB;obtain ⟨R,hR⟩:∃R,R=mP (jO d) a b:=⟨_,rfl⟩;rw [<- hR];have HR:Hid (R=mP (jO d) (a.drop 0) (b.drop 0)):=hR;clear hA hB hR;generalize hn:a.length=n at *;generalize hm:b.length=k at *;subst hne;clear lb;go_enter Tryz.func22,Tryz.ntmps22;go_wp2_with fail;go_loopw [5] (fun i wr=>∃j:Nat,j<=n/\i=.int .i64 j/\Hid (R=mP (jO d) (a.drop j) (b.drop j))/\Hid (Below w.heap.size w wr)) (fun i _=>n-(RowKit.intOf i).toNat)
 case atStart=>exact ⟨0,by omega,rfl,HR,aa (Below.refl _ _)⟩
 case round =>
  obtain ⟨j,hj,rfl,HK,HP⟩:=hrel;by_cases hgo:j<n
  ·obtain ⟨b1,bE,qI,hv1,hx1⟩:=Row.some HA.out (by omega);injection hv1 with jb e11 e12;subst jb;obtain ⟨b2,bF,cap2,hv2,hx2⟩:=Row.some HB.out (by omega);injection hv2 with jc jd je;subst jc;obtain ⟨x,hxk⟩:∃x,a[j]?=some x:=⟨_,List.getElem?_eq_getElem (by omega)⟩;obtain ⟨y,hyk⟩:∃y,b[j]?=some y:=⟨_,List.getElem?_eq_getElem (by omega)⟩;have HX:=aa ((hx1 j x hxk).on HP.out (At.on HP.out d));have HY:=aa ((hx2 j y hyk).on HP.out (At.on HP.out d));have HN:=aa (UE hxk hyk HK.out);clear hx1 hx2 hxk hyk HK e11 e12 jd je;obtain ⟨g0,g1,g2,g3,⟨lx,g4,ER⟩,⟨bx,g5,ES⟩,⟨ex,g6,ET⟩⟩:=HX.out;obtain ⟨h0,h1,h2,h3,⟨ly,h4,EU⟩,⟨UI,h5,EW⟩,⟨ey,h6,EX⟩⟩:=HY.out;obtain ⟨UJ,UK,rfl⟩:=Row.len ER;obtain ⟨UL,UM,rfl⟩:=Row.len EU;obtain ⟨UN,UO,rfl⟩:=At.len d bx _ ES;obtain ⟨UQ,exc,rfl⟩:=At.len d ex _ ET;obtain ⟨UR,UT,rfl⟩:=At.len d UI _ EW;obtain ⟨UU,UW,rfl⟩:=At.len d ey _ EX;have qK:=aa ER;have oH:=aa ES;have nC:=aa ET;have qL:=aa EU;have oI:=aa EW;have nD:=aa EX;clear ER ES ET EU EW EX HX HY;have z1:b1<wr.heap.size:=World.block_lt_of_cell? _ _ g0;have z2:b2<wr.heap.size:=World.block_lt_of_cell? _ _ h0;go_upto_region 6 with fail;go_cut [6,7] from 19 to 26 (fun s6 s7 wx=>∃p q:Nat,s6=.pointer (some ⟨p,0,none⟩)/\s7=.pointer (some ⟨q,0,none⟩)/\Hid (kY p (.int .i64 x.op) (.int .i64 x.a) (.int .i64 x.b) (.int .i64 x.n) (.slice UJ x.labels.length UK) (.slice UN (size d x.body) UO) (.slice UQ (size d x.els) exc) wx)/\Hid (kY q (.int .i64 y.op) (.int .i64 y.a) (.int .i64 y.b) (.int .i64 y.n) (.slice UL y.labels.length UM) (.slice UR (size d y.body) UT) (.slice UU (size d y.els) UW) wx)/\Hid (Below wr.heap.size wr wx))
   case first =>
    go_region
    ·go_wp2_with fail
     go_meet
     exact ⟨wr.heap.size,wr.heap.size+1,rfl,rfl,aa (kY.on (gV _) (kY.on (aD _ _) (kY.new wr _ _ _ _ _ _ _ _ _ rfl))),aa (kY.on (gV _) (kY.new _ _ _ _ _ _ _ _ _ _ (by simp))),aa (cu (cu (aD _ _) (aD _ _)) (gV _))⟩
    ·go_wp2_with fail
     go_meet
     exact ⟨wr.heap.size+1,wr.heap.size,rfl,rfl,aa (kY.on (gV _) (kY.new _ _ _ _ _ _ _ _ _ _ (by simp))),aa (kY.on (gV _) (kY.on (aD _ _) (kY.new wr _ _ _ _ _ _ _ _ _ rfl))),aa (cu (cu (aD _ _) (aD _ _)) (gV _))⟩
   obtain ⟨p,q,rfl,rfl,SX,SY,HC⟩:=hcut;clear g0 g1 g2 g3 g4 g5 g6 h0 h1 h2 h3 h4 h5 h6 z1 z2;have HP:=aa (cu HP.out HC.out);have qK:=aa (qK.out.on HC.out);have qL:=aa (qL.out.on HC.out);have oH:=aa (At.on HC.out _ _ _ oH.out);have oI:=aa (At.on HC.out _ _ _ oI.out);have nC:=aa (At.on HC.out _ _ _ nC.out);have nD:=aa (At.on HC.out _ _ _ nD.out);clear HC;obtain ⟨g0,g1,g2,g3,g4,g5,g6⟩:=SX.out;obtain ⟨h0,h1,h2,h3,h4,h5,h6⟩:=SY.out;have cJ:Hid (R=(nE (jO d) x y && mP (jO d) (a.drop (j+1)) (b.drop (j+1)))):=HN;unfold nE at cJ;clear HN;by_cases BZ:x.op=y.op;rotate_left
   ·have top:(x.op != y.op)=true:=by rw [bne_iff_ne];exact BZ
    obtain rfl:R=false:=by rw [cJ.out,decide_eq_false BZ];rfl
    clear cJ;go_wp2;go_ret;exact ⟨rfl,HP.out⟩
   have top:(x.op != y.op)=false:=by rw [bne_eq_false_iff_eq];exact BZ
   rw [decide_eq_true BZ,Bool.true_and] at cJ;by_cases ea:x.a=y.a;rotate_left
   ·have ta:(x.a != y.a)=true:=by rw [bne_iff_ne];exact ea
    obtain rfl:R=false:=by rw [cJ.out,decide_eq_false ea];rfl
    clear cJ;go_wp2;go_ret;exact ⟨rfl,HP.out⟩
   have ta:(x.a != y.a)=false:=by rw [bne_eq_false_iff_eq];exact ea
   rw [decide_eq_true ea,Bool.true_and] at cJ;by_cases eb:x.b=y.b;rotate_left
   ·have tb:(x.b != y.b)=true:=by rw [bne_iff_ne];exact eb
    obtain rfl:R=false:=by rw [cJ.out,decide_eq_false eb];rfl
    clear cJ;go_wp2;go_ret;exact ⟨rfl,HP.out⟩
   have tb:(x.b != y.b)=false:=by rw [bne_eq_false_iff_eq];exact eb
   rw [decide_eq_true eb,Bool.true_and] at cJ;by_cases en:x.n=y.n;rotate_left
   ·have tn:(x.n != y.n)=true:=by rw [bne_iff_ne];exact en
    obtain rfl:R=false:=by rw [cJ.out,decide_eq_false en];rfl
    clear cJ;go_wp2;go_ret;exact ⟨rfl,HP.out⟩
   have tn:(x.n != y.n)=false:=by rw [bne_eq_false_iff_eq];exact en
   rw [decide_eq_true en,Bool.true_and] at cJ;go_wp2_with fail;refine (vU _ _ x.labels y.labels _ qK.out qL.out).mono ?_;rintro e u1 ⟨rfl,nd,hnd⟩;have hb:Below wc.heap.size wc u1:=by rw [hnd];exact bN _ _
   clear hnd;have HP:=aa (cu HP.out hb);have SX:=aa (SX.out.on hb);have SY:=aa (SY.out.on hb);have oH:=aa (At.on hb _ _ _ oH.out);have oI:=aa (At.on hb _ _ _ oI.out);have nC:=aa (At.on hb _ _ _ nC.out);have nD:=aa (At.on hb _ _ _ nD.out);clear hb g0 g1 g2 g3 g4 g5 g6 h0 h1 h2 h3 h4 h5 h6 qK qL;generalize decide (x.labels=y.labels)=tl at *;cases tl with
   | false =>
    obtain rfl:R=false:=cJ.out;clear cJ;go_wp2;go_ret;exact ⟨rfl,HP.out⟩
   | true =>
   obtain ⟨g0,g1,g2,g3,g4,g5,g6⟩:=SX.out;obtain ⟨h0,h1,h2,h3,h4,h5,h6⟩:=SY.out;go_wp2_with fail;refine (IH _ _ x.body y.body _ oH.out oI.out).mono ?_;rintro e u2 ⟨rfl,hb⟩;have HP:=aa (cu HP.out hb);have SX:=aa (SX.out.on hb);have SY:=aa (SY.out.on hb);have nC:=aa (At.on hb _ _ _ nC.out);have nD:=aa (At.on hb _ _ _ nD.out);clear hb g0 g1 g2 g3 g4 g5 g6 h0 h1 h2 h3 h4 h5 h6 oH oI;generalize jO d x.body y.body=tb at *;cases tb with
   | false =>
    obtain rfl:R=false:=cJ.out;clear cJ;go_wp2;go_ret;exact ⟨rfl,HP.out⟩
   | true =>
   obtain ⟨g0,g1,g2,g3,g4,g5,g6⟩:=SX.out;obtain ⟨h0,h1,h2,h3,h4,h5,h6⟩:=SY.out;go_wp2_with fail;refine (IH _ _ x.els y.els _ nC.out nD.out).mono ?_;rintro e u3 ⟨rfl,hb⟩;have HP:=aa (cu HP.out hb);clear hb g0 g1 g2 g3 g4 g5 g6 h0 h1 h2 h3 h4 h5 h6 nC nD SX SY;generalize jO d x.els y.els=te at *;cases te with
   | false =>
    obtain rfl:R=false:=cJ.out;clear cJ;go_wp2;go_ret;exact ⟨rfl,HP.out⟩
   | true =>
   have yN:Hid (R=mP (jO d) (a.drop (j+1)) (b.drop (j+1))):=aa (by rw [cJ.out];simp only [Bool.true_and]);clear cJ;go_wp2;go_roundw
   case rel=>exact ⟨j+1,by omega,by go_num,yN,HP⟩
   case measure=>simp [RowKit.intOf];omega
  ·obtain rfl:R=true:=by rw [HK.out,List.drop_of_length_le (by omega),List.drop_of_length_le (by omega)];rfl
   clear HK;go_wp2;go_ret;exact ⟨rfl,HP.out⟩
theorem CL:∀(d:Nat),K6 d
 | 0=>fun va vb a b w ⟨oa,ca,hva⟩ ⟨ob,cb,hvb⟩=>by
  subst hva;subst hvb;exact (UG oa ob ca cb w).mono fun e w' ⟨h1,h2⟩=>⟨h1,by rw [h2];exact Below.refl _ _⟩
 | d+1=>fun va vb a b w hA hB=>UH d (CL d) va vb a b w hA hB
namespace aA
theorem FX {α:Type} (w:World) (f:Value->α->Prop) (t:TypeId) (b:Nat) (x:Ins α) (v4 v5 v6:Value) (hb:b=w.heap.size)
  (h4:Ints (w.alloc (.cells #[.int .i64 x.op,.int .i64 x.a,.int .i64 x.b,.int .i64 x.n,v4,v5,v6] t)) v4 x.labels) (h5:f v5 x.body) (h6:f v6 x.els) :
  mQ (w.alloc (.cells #[.int .i64 x.op,.int .i64 x.a,.int .i64 x.b,.int .i64 x.n,v4,v5,v6] t)) f b 0 x:=by
 have hc:∀(i:Nat) (v:Value),#[Value.int .i64 x.op,.int .i64 x.a,.int .i64 x.b,.int .i64 x.n,v4,v5,v6][i]?=some v->(w.alloc (.cells #[.int .i64 x.op,.int .i64 x.a,.int .i64 x.b,.int .i64 x.n,v4,v5,v6] t)).cell? ⟨b,i,none⟩=some v:=fun i v h=>by
  rw [World.cell?_alloc_at _ t _ _ hb];exact h
 exact ⟨hc _ _ rfl,hc _ _ rfl,hc _ _ rfl,hc _ _ rfl,⟨_,hc _ _ rfl,h4⟩,⟨_,hc _ _ rfl,h5⟩,⟨_,hc _ _ rfl,h6⟩⟩
theorem FY {α:Type} (k:Nat) (f:Nat->Nat->α->Prop) (b cap:Nat) (x:α) (h:f b 0 x):Row k f (.slice (some ⟨b,0,none⟩) 1 cap) [x] :=
 ⟨by simp,.inr ⟨b,0,cap,rfl,fun i y hi=>by
  match i,hi with
  | 0,hi=>simp at hi;subst hi;simpa using h
  | i+1,hi=>simp at hi⟩⟩
end aA
theorem Oq (d:Nat) (x y:Ins (IL d)) (o4 o5 o6 p4 p5 p6:Option Addr) (n4 n5 n6 m4 m5 m6 c4 c5 c6 e4 e5 e6:Nat) (w:World) (b1 b2:Nat) (h1:b1=w.heap.size) (h2:b2=w.heap.size+1)
  (a4:Ints w (.slice o4 n4 c4) x.labels) (a5:At w d (.slice o5 n5 c5) x.body) (a6:At w d (.slice o6 n6 c6) x.els) (b4:Ints w (.slice p4 m4 e4) y.labels) (b5:At w d (.slice p5 m5 e5) y.body) (b6:At w d (.slice p6 m6 e6) y.els) :
  Calls Tryz.prog 22 #[.slice (some ⟨b1,0,none⟩) 1 1,.slice (some ⟨b2,0,none⟩) 1 1] ((w.alloc (.cells #[.int .i64 x.op,.int .i64 x.a,.int .i64 x.b,.int .i64 x.n,.slice o4 n4 c4,.slice o5 n5 c5,.slice o6 n6 c6] 73)).alloc (.cells #[.int .i64 y.op,.int .i64 y.a,.int .i64 y.b,.int .i64 y.n,.slice p4 m4 e4,.slice p5 m5 e5,.slice p6 m6 e6] 73)) fun e w'=>e=.returned (.bool (nE (jO d) x y))/\Below w.heap.size w w':=by
 have hb1:=aD w (.cells #[.int .i64 x.op,.int .i64 x.a,.int .i64 x.b,.int .i64 x.n,.slice o4 n4 c4,.slice o5 n5 c5,.slice o6 n6 c6] 73);have i1:=FX w (At (w.alloc (.cells #[.int .i64 x.op,.int .i64 x.a,.int .i64 x.b,.int .i64 x.n,.slice o4 n4 c4,.slice o5 n5 c5,.slice o6 n6 c6] 73)) d) 73 b1 x _ _ _ h1 (a4.on hb1) (At.on hb1 _ _ _ a5) (At.on hb1 _ _ _ a6);have b4:=b4.on hb1;have b5:=At.on hb1 _ _ _ b5;have b6:=At.on hb1 _ _ _ b6;have hs:(w.alloc (.cells #[.int .i64 x.op,.int .i64 x.a,.int .i64 x.b,.int .i64 x.n,.slice o4 n4 c4,.slice o5 n5 c5,.slice o6 n6 c6] 73)).heap.size=w.heap.size+1:=by simp
 generalize w.alloc (.cells #[.int .i64 x.op,.int .i64 x.a,.int .i64 x.b,.int .i64 x.n,.slice o4 n4 c4,.slice o5 n5 c5,.slice o6 n6 c6] 73)=w1 at *;have hb2:=aD w1 (.cells #[.int .i64 y.op,.int .i64 y.a,.int .i64 y.b,.int .i64 y.n,.slice p4 m4 e4,.slice p5 m5 e5,.slice p6 m6 e6] 73);have i2:=FX w1 (At (w1.alloc (.cells #[.int .i64 y.op,.int .i64 y.a,.int .i64 y.b,.int .i64 y.n,.slice p4 m4 e4,.slice p5 m5 e5,.slice p6 m6 e6] 73)) d) 73 b2 y _ _ _ (by rw [h2,hs]) (b4.on hb2) (At.on hb2 _ _ _ b5) (At.on hb2 _ _ _ b6);have i1:=i1.on hb2 (At.on hb2 d)
 have hE:jO (d+1) ([x]:List (Ins (IL d))) ([y]:List (Ins (IL d)))=nE (jO d) x y:=by
  show (nE (jO d) x y && true)=_;rw [Bool.and_true]
 rw [<- hE];exact (CL (d+1) (.slice (some ⟨b1,0,none⟩) 1 1) (.slice (some ⟨b2,0,none⟩) 1 1) ([x]:List (Ins (IL d))) ([y]:List (Ins (IL d))) _ (FY _ _ _ _ _ i1) (FY _ _ _ _ _ i2)).mono fun e w' ⟨h1,h2⟩=>⟨h1,cu (cu hb1 hb2) h2⟩
theorem CM (d:Nat) (x y:Ins (IL d)) (o4 o5 o6 p4 p5 p6:Option Addr) (n4 n5 n6 m4 m5 m6 c4 c5 c6 e4 e5 e6:Nat) (w:World)
  (a4:Ints w (.slice o4 n4 c4) x.labels) (a5:At w d (.slice o5 n5 c5) x.body) (a6:At w d (.slice o6 n6 c6) x.els) (b4:Ints w (.slice p4 m4 e4) y.labels) (b5:At w d (.slice p5 m5 e5) y.body) (b6:At w d (.slice p6 m6 e6) y.els) :
  Calls Tryz.prog 23 #[.agg #[.int .i64 x.op,.int .i64 x.a,.int .i64 x.b,.int .i64 x.n,.slice o4 n4 c4,.slice o5 n5 c5,.slice o6 n6 c6],.agg #[.int .i64 y.op,.int .i64 y.a,.int .i64 y.b,.int .i64 y.n,.slice p4 m4 e4,.slice p5 m5 e5,.slice p6 m6 e6]] w fun e w'=>e=.returned (.bool (nE (jO d) x y))/\Below w.heap.size w w':=by
 have HC:=aa (fun (w':World) (hb:Below w.heap.size w w') (b1 b2:Nat) (h1:b1=w'.heap.size) (h2:b2=w'.heap.size+1)=>Oq d x y o4 o5 o6 p4 p5 p6 n4 n5 n6 m4 m5 m6 c4 c5 c6 e4 e5 e6 w' b1 b2 h1 h2 (a4.on hb) (At.on hb _ _ _ a5) (At.on hb _ _ _ a6) (b4.on hb) (At.on hb _ _ _ b5) (At.on hb _ _ _ b6));have HB:=aa (cu (aD w (.cells #[.int .i64 x.op,.int .i64 x.a,.int .i64 x.b,.int .i64 x.n,.slice o4 n4 c4,.slice o5 n5 c5,.slice o6 n6 c6] 73)) (aD (w.alloc (.cells #[.int .i64 x.op,.int .i64 x.a,.int .i64 x.b,.int .i64 x.n,.slice o4 n4 c4,.slice o5 n5 c5,.slice o6 n6 c6] 73)) (.cells #[.int .i64 y.op,.int .i64 y.a,.int .i64 y.b,.int .i64 y.n,.slice p4 m4 e4,.slice p5 m5 e5,.slice p6 m6 e6] 73)));obtain ⟨R,hR⟩:∃R,R=nE (jO d) x y:=⟨_,rfl⟩;rw [<- hR] at HC ⊢;clear hR a4 a5 a6 b4 b5 b6;go_enter Tryz.func23,Tryz.ntmps23;go_wp2_with fail;refine (HC.out _ HB.out _ _ (by simp) (by simp)).mono ?_;rintro e u ⟨rfl,hb⟩;have HB2:=aa (cu HB.out hb);clear hb;go_wp2;go_ret;exact ⟨rfl,HB2.out⟩
namespace aA
theorem Fe {α:Type} {f:α->α->Bool} (hf:∀x,f x x=true):∀l,mP f l l=true
 | []=>rfl
 | x :: r=>by unfold mP nE;rw [Fe hf r,hf,hf];simp
theorem AO:∀(d:Nat) (l:IL d),jO d l l=true
 | 0,_=>rfl
 | d+1,l=>Fe (AO d) l
theorem Ce {d:Nat} (x:Ins (IL d)):nE (jO d) x x=true:=by unfold nE;rw [AO,AO];simp
theorem xy {w w':World} (h:∃n,w'=w.drewN n):Below w.heap.size w w':=by obtain ⟨n,rfl⟩:=h;exact bN w n
end aA
theorem Lm (d:Nat) (v0 v1 v2 v3 v4 v5 v6 v7 v8 v9 u0 u1 u2 u3 u4 u5 u6 u7 u8 u9:Value) (m:Mod d) (w:World) (hM:pX w d v0 v1 v2 v3 v4 v5 v6 v7 v8 v9 m) (hK:pX w d u0 u1 u2 u3 u4 u5 u6 u7 u8 u9 m):Calls Tryz.prog 20 #[.agg #[v0,v1,v2,v3,v4,v5,v6,v7,v8,v9],.agg #[u0,u1,u2,u3,u4,u5,u6,u7,u8,u9]] w (fun e w'=>e=.returned (.bool true)/\Below w.heap.size w w'):=by
 obtain ⟨o0,k0,rfl⟩:=Row.len hM.types;obtain ⟨o1,k1,rfl⟩:=Row.len hM.imports;obtain ⟨o2,k2,rfl⟩:=Row.len hM.funcs;obtain ⟨o3,k3,rfl⟩:=Row.len hM.tables;obtain ⟨o4,k4,rfl⟩:=Row.len hM.dU;obtain ⟨o5,k5,rfl⟩:=Row.len hM.globals;obtain ⟨o6,k6,rfl⟩:=Row.len hM.exports;obtain ⟨o7,k7,rfl⟩:=Row.len hM.start;obtain ⟨o8,k8,rfl⟩:=Row.len hM.elems;obtain ⟨o9,k9,rfl⟩:=Row.len hM.dV;obtain ⟨g0,h0,rfl⟩:=Row.len hK.types;obtain ⟨g1,h1,rfl⟩:=Row.len hK.imports;obtain ⟨g2,h2,rfl⟩:=Row.len hK.funcs;obtain ⟨g3,h3,rfl⟩:=Row.len hK.tables;obtain ⟨g4,h4,rfl⟩:=Row.len hK.dU;obtain ⟨g5,h5,rfl⟩:=Row.len hK.globals;obtain ⟨g6,h6,rfl⟩:=Row.len hK.exports;obtain ⟨g7,h7,rfl⟩:=Row.len hK.start;obtain ⟨g8,h8,rfl⟩:=Row.len hK.elems;obtain ⟨g9,h9,rfl⟩:=Row.len hK.dV;have HM:=aa hM;have HK:=aa hK;clear hM hK;generalize hn0:m.types.length=n0 at *;generalize pY:m.imports.length=n1 at *;generalize jP:m.funcs.length=n2 at *;generalize xz:m.tables.length=n3 at *;generalize uA:m.dU.length=n4 at *;generalize uC:m.globals.length=n5 at *;generalize xA:m.exports.length=n6 at *;generalize xB:m.start.length=n7 at *;generalize xC:m.elems.length=n8 at *;generalize xD:m.dV.length=n9 at *;go_enter Tryz.func20,Tryz.ntmps20;go_upto_region 1 with fail;obtain ⟨u1,hu1⟩:∃u1,u1=(w.alloc (.cells #[.slice o0 n0 k0,.slice o1 n1 k1,.slice o2 n2 k2,.slice o3 n3 k3,.slice o4 n4 k4,.slice o5 n5 k5,.slice o6 n6 k6,.slice o7 n7 k7,.slice o8 n8 k8,.slice o9 n9 k9] 33)).alloc (.cells #[.slice g0 n0 h0,.slice g1 n1 h1,.slice g2 n2 h2,.slice g3 n3 h3,.slice g4 n4 h4,.slice g5 n5 h5,.slice g6 n6 h6,.slice g7 n7 h7,.slice g8 n8 h8,.slice g9 n9 h9] 33):=⟨_,rfl⟩;have HP:Hid (fo u1 w.heap.size (.slice o0 n0 k0) (.slice o1 n1 k1) (.slice o2 n2 k2) (.slice o3 n3 k3) (.slice o4 n4 k4) (.slice o5 n5 k5) (.slice o6 n6 k6) (.slice o7 n7 k7) (.slice o8 n8 k8) (.slice o9 n9 k9)):=aa (by rw [hu1];exact (fo.new rfl).on (aD _ _));have HQ:Hid (fo u1 (w.heap.size+1) (.slice g0 n0 h0) (.slice g1 n1 h1) (.slice g2 n2 h2) (.slice g3 n3 h3) (.slice g4 n4 h4) (.slice g5 n5 h5) (.slice g6 n6 h6) (.slice g7 n7 h7) (.slice g8 n8 h8) (.slice g9 n9 h9)):=aa (by rw [hu1];exact fo.new (by simp));have HU:Hid (Below w.heap.size w u1):=aa (by rw [hu1];exact cu (aD _ _) (aD _ _));have ji:=aa (HM.out.on HU.out);have jk:=aa (HK.out.on HU.out);rw [<- hu1];clear hu1;obtain ⟨p2,hp2⟩:∃p2,p2=w.heap.size+1:=⟨_,rfl⟩;rw [<- hp2] at HQ ⊢;clear hp2;generalize hp1:w.heap.size=p1 at HP ⊢;simp only [List.append_eq,List.cons_append,List.nil_append];refine af.Lp 87 5 4 91 [.pointer (some ⟨p1,0,none⟩),.slice o0 n0 k0,.int .i64 (n0:Nat),.pointer (some ⟨p2,0,none⟩),.slice g0 n0 h0,.int .i64 (n0:Nat),.bool true,.bool true,.pointer (some ⟨p1,1,none⟩),.slice o1 n1 k1,.int .i64 (n1:Nat),.pointer (some ⟨p2,1,none⟩),.slice g1 n1 h1,.int .i64 (n1:Nat),.bool true,.bool true,.bool true,.pointer (some ⟨p1,2,none⟩),.slice o2 n2 k2,.int .i64 (n2:Nat),.pointer (some ⟨p2,2,none⟩),.slice g2 n2 h2,.int .i64 (n2:Nat),.bool true,.bool true,.bool true,.pointer (some ⟨p1,3,none⟩),.slice o3 n3 k3,.int .i64 (n3:Nat),.pointer (some ⟨p2,3,none⟩),.slice g3 n3 h3,.int .i64 (n3:Nat),.bool true,.bool true,.bool true,.pointer (some ⟨p1,4,none⟩),.slice o4 n4 k4,.int .i64 (n4:Nat),.pointer (some ⟨p2,4,none⟩),.slice g4 n4 h4,.int .i64 (n4:Nat),.bool true,.bool true,.bool true,.pointer (some ⟨p1,5,none⟩),.slice o5 n5 k5,.int .i64 (n5:Nat),.pointer (some ⟨p2,5,none⟩),.slice g5 n5 h5,.int .i64 (n5:Nat),.bool true,.bool true,.bool true,.pointer (some ⟨p1,6,none⟩),.slice o6 n6 k6,.int .i64 (n6:Nat),.pointer (some ⟨p2,6,none⟩),.slice g6 n6 h6,.int .i64 (n6:Nat),.bool true,.bool true,.bool true,.pointer (some ⟨p1,7,none⟩),.slice o7 n7 k7,.pointer (some ⟨p2,7,none⟩),.slice g7 n7 h7,.bool true,.bool true,.bool true,.pointer (some ⟨p1,8,none⟩),.slice o8 n8 k8,.int .i64 (n8:Nat),.pointer (some ⟨p2,8,none⟩),.slice g8 n8 h8,.int .i64 (n8:Nat),.bool true,.bool true,.bool true,.pointer (some ⟨p1,9,none⟩),.slice o9 n9 k9,.int .i64 (n9:Nat),.pointer (some ⟨p2,9,none⟩),.slice g9 n9 h9,.int .i64 (n9:Nat),.bool true,.bool true,.bool true] (by simp) (by kernel_rfl) rfl (by decide) ?hstep ?fu
 case hstep =>
  intro i o a w hi ho hF hB hd;have f2:a.tmps[2]?.getD undef=.pointer (some ⟨p1,0,none⟩):=af.av (hF.eval 2 (fun i hi=>by show (if i<86 then 5+i else 4)≠2;split<;>omega))
  have f3:a.tmps[3]?.getD undef=.pointer (some ⟨p2,0,none⟩):=af.av (hF.eval 3 (fun i hi=>by show (if i<86 then 5+i else 4)≠3;split<;>omega))
  have c0:=(HP.out.on hB).cell 0 _ rfl;have c1:=(HP.out.on hB).cell 1 _ rfl;have c2:=(HP.out.on hB).cell 2 _ rfl;have c3:=(HP.out.on hB).cell 3 _ rfl;have c4:=(HP.out.on hB).cell 4 _ rfl;have c5:=(HP.out.on hB).cell 5 _ rfl;have c6:=(HP.out.on hB).cell 6 _ rfl;have c7:=(HP.out.on hB).cell 7 _ rfl;have c8:=(HP.out.on hB).cell 8 _ rfl;have c9:=(HP.out.on hB).cell 9 _ rfl;have d0:=(HQ.out.on hB).cell 0 _ rfl;have d1:=(HQ.out.on hB).cell 1 _ rfl;have d2:=(HQ.out.on hB).cell 2 _ rfl;have d3:=(HQ.out.on hB).cell 3 _ rfl;have d4:=(HQ.out.on hB).cell 4 _ rfl;have d5:=(HQ.out.on hB).cell 5 _ rfl;have d6:=(HQ.out.on hB).cell 6 _ rfl;have d7:=(HQ.out.on hB).cell 7 _ rfl;have d8:=(HQ.out.on hB).cell 8 _ rfl;have d9:=(HQ.out.on hB).cell 9 _ rfl
  iterate 87 (rcases Nat.lt_succ_iff_lt_or_eq.1 hi with hi|rfl)
  exact absurd hi (Nat.not_lt_zero _)
  all_goals (
   simp only [List.getElem?_toArray,List.getElem?_cons_succ,List.getElem?_cons_zero,Option.some.injEq] at ho;subst ho
   first
   | refine af.Does.go rfl (af.aR fun K hK=>?_)
   | refine af.qa rfl rfl rfl rfl (hd _ (by decide)) (af.aR fun K hK=>?_)
   go_simp
   first|exact hK _ _ ⟨_,rfl,Below.refl _ _,rfl⟩|(refine (vU _ _ _ _ w ((ji.out.on hB).start) ((jk.out.on hB).start)).mono ?_;rintro e w' ⟨rfl,hw⟩;exact hK _ _ ⟨_,rfl,aA.xy hw,by simp [af.lJ]⟩))
 case fu =>
  intro a w2 hF hB hG;have gl:a.eval (.tmp 4)=.bool true:=hG;have HW:=aa (cu HU.out hB);rw [List.drop_eq_nil_of_le (by simp)];refine wpList_nil ?_;go_wp2_with fail;refine bodyPost_ret (v:=.bool true) ((results_tmp rfl _ _ _).trans (congrArg (fun v=>Result.ok v w2) gl)) hF.defers ⟨rfl,hp1 ▸ HW.out⟩
end Go.Proofs.YtegboefdolfdgaaGreatDoor
