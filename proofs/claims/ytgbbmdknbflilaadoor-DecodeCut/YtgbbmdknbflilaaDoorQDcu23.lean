/- Texts that the claim needs. -/
import Derived.Test.YtgbbmdknbflilaaDoorQDcu12
import Derived.Test.YtgbbmdknbflilaaDoorQDcu21
import Derived.Test.YtgbbmdknbflilaaDoorQDcu22
namespace Go.Proofs.YtgbbmdknbflilaaDoor
open Go.RowKit Rep Dec
set_option linter.unusedVariables false
namespace Dec
def FB (g ob L:Nat) (ty:Nat->Int) (a b:Nat->Value) (w:World):Prop :=
 ∃cur:Array Value,w.heap[g]?=some (.cells cur 67 (0,0))/\∀j,j<L->cur[ob+j*3]?=some (.int .i64 (ty j))/\cur[ob+j*3+1]?=some (a j)/\cur[ob+j*3+2]?=some (b j)
section
variable {g ob L:Nat} {ty:Nat->Int} {a b:Nat->Value} {w w':World}
theorem FB.cell (h:FB g ob L ty a b w) {j:Nat} (hj:j<L):w.cell? ⟨g,ob+j*3,none⟩=some (.int .i64 (ty j))/\w.cell? ⟨g,ob+j*3+1,none⟩=some (a j)/\w.cell? ⟨g,ob+j*3+2,none⟩=some (b j):=by
 obtain ⟨cur,h1,h2⟩:=h
 unfold World.cell?
 rw [h1]
 exact h2 j hj
theorem FB.frz (h:FB g ob L ty a b w) (o:Nat):w.frozen? ⟨g,o,none⟩=false:=by
 obtain ⟨cur,h1,h2⟩:=h
 unfold World.frozen?;rw [h1];simp
theorem FB.lt (h:FB g ob L ty a b w):g<w.heap.size:=by
 obtain ⟨cur,h1,h2⟩:=h
 exact (Array.getElem?_eq_some_iff.1 h1).1
theorem FB.keep (h:FB g ob L ty a b w) (hw:w'.heap[g]?=w.heap[g]?):FB g ob L ty a b w':=by
 obtain ⟨cur,h1,h2⟩:=h
 exact ⟨cur,by rw [hw];exact h1,h2⟩
theorem FB.setA (h:FB g ob L ty a b w) {q:Nat} (hq:q<L) (v:Value):FB g ob L ty (upd a q v) b (w.setCell ⟨g,ob+q*3+1,none⟩ v):=by
 obtain ⟨cur,h1,h2⟩:=h
 refine ⟨cur.setIfInBounds (ob+q*3+1) v,heap_setCell_same w g _ cur _ v h1,fun j hj=>?_⟩
 have hlt:ob+q*3+1<cur.size:=(Array.getElem?_eq_some_iff.1 (h2 q hq).2.1).1
 obtain ⟨a1,a2,a3⟩:=h2 j hj
 refine ⟨?_,?_,?_⟩
 ·rw [Array.getElem?_setIfInBounds,if_neg (by omega)];exact a1
 ·rw [Array.getElem?_setIfInBounds]
  unfold upd
  by_cases hjq:j=q
  ·rw [if_pos (by omega),if_pos hlt,if_pos hjq]
  ·rw [if_neg (by omega),if_neg hjq];exact a2
 ·rw [Array.getElem?_setIfInBounds,if_neg (by omega)];exact a3
theorem FB.setB (h:FB g ob L ty a b w) {q:Nat} (hq:q<L) (v:Value):FB g ob L ty a (upd b q v) (w.setCell ⟨g,ob+q*3+2,none⟩ v):=by
 obtain ⟨cur,h1,h2⟩:=h
 refine ⟨cur.setIfInBounds (ob+q*3+2) v,heap_setCell_same w g _ cur _ v h1,fun j hj=>?_⟩
 have hlt:ob+q*3+2<cur.size:=(Array.getElem?_eq_some_iff.1 (h2 q hq).2.2).1
 obtain ⟨a1,a2,a3⟩:=h2 j hj
 refine ⟨?_,?_,?_⟩
 ·rw [Array.getElem?_setIfInBounds,if_neg (by omega)];exact a1
 ·rw [Array.getElem?_setIfInBounds,if_neg (by omega)];exact a2
 ·rw [Array.getElem?_setIfInBounds]
  unfold upd
  by_cases hjq:j=q
  ·rw [if_pos (by omega),if_pos hlt,if_pos hjq]
  ·rw [if_neg (by omega),if_neg hjq];exact a3
structure Bu2 (p g:Nat) (w w':World):Prop where
 os:w'.os=w.os
 tape:w'.tape=w.tape
 output:w'.output=w.output
 size:w.heap.size<=w'.heap.size
 block:∀k,k<w.heap.size->k≠p->k≠g->w'.heap[k]?=w.heap[k]?
theorem Bu2.of {p:Nat} (h:But p w w'):Bu2 p g w w':=⟨h.os,h.tape,h.output,h.size,fun k hk hp _=>h.block k hk (by simpa using hp)⟩
theorem Bu2.refl (p g:Nat) (w:World):Bu2 p g w w:=⟨rfl,rfl,rfl,Nat.le_refl _,fun _ _ _ _=>rfl⟩
theorem Bu2.trans {p:Nat} {u:World} (h:Bu2 p g w w') (h':Bu2 p g w' u):Bu2 p g w u :=
 ⟨h'.os.trans h.os,h'.tape.trans h.tape,h'.output.trans h.output,Nat.le_trans h.size h'.size,fun k hk hp hg=>(h'.block k (Nat.lt_of_lt_of_le hk h.size) hp hg).trans (h.block k hk hp hg)⟩
theorem Bu2.set (p g o:Nat) (w:World) (v:Value):Bu2 p g w (w.setCell ⟨g,o,none⟩ v) :=
 ⟨rfl,rfl,rfl,by simp,fun k hk hp hg=>Below.heap_setCell _ _ _ _ hg⟩
theorem Bu2.t {p:Nat} (h:Bu2 p g w w') (hf:FB g ob L ty a b w):ButT p w w':=⟨h.os,h.tape,h.output,h.size,fun k hk hp hn=>h.block k hk hp (fun e=>by
 obtain ⟨cur,h1,_⟩:=hf
 subst e
 exact hn cur _ h1)⟩
theorem Bu2.heap {p:Nat} (h:Bu2 p g w w') {k:Nat} {o:Obj} (hp:k≠p) (hg:k≠g) (hk:w.heap[k]?=some o):w'.heap[k]?=some o:=by rw [h.block k (Array.getElem?_eq_some_iff.1 hk).1 hp hg];exact hk
end
theorem RS.other {w0 w:World} {p:Nat} {s:ByteArray} {c:Nat->Value} {en k i n:Nat} (h:RS w0 p s c en k i n w) {g:Nat} (hg:g≠p) (h0:w0.heap.size<=g) (o:Nat) (v:Value):RS w0 p s c en k i n (w.setCell ⟨g,o,none⟩ v) :=
 ⟨h.below.setCell h0 _,h.base,by rw [Below.heap_setCell _ _ _ _ (by exact fun e=>hg e.symm)];exact h.blk,h.le,h.len,h.big⟩
def rfun (s:ByteArray) (en i n:Nat):R2 (List Int × IL 81):=bd2 (lift (rlocals s en i) n) fun l j m=>bd2 (rexpr s en j m) fun b j2 m2=>.ok ((l,b),j2,m2)
def FnR (w0:World) (p:Nat) (s:ByteArray) (c:Nat->Value) (en k g ob L:Nat) (ty:Nat->Int) (a b:Nat->Value) (q:Nat) (w:World) (x:R2 (List Int × IL 81)) (e:Ending) (w':World):Prop :=
 match x with
 | .ok (lb,j,m)=>e=.returned (.tuple #[])/\(∃vl vb,RS w0 p s c en k j m w'/\FB g ob L ty (upd a q vl) (upd b q vb) w'/\IntsS w' (Since w.heap.size w' none) vl lb.1/\AtS w' (Since w.heap.size w' none) 81 vb lb.2)/\Bu2 p g w w'
 | .error z=>e=.panicked (gave z)/\Below w0.heap.size w0 w'
end Dec
namespace Dec
theorem grown_below {w w':World} (h:w.grownBy w' none):Below w.heap.size w w':=⟨h.os,h.tape,h.output,h.size,fun k hk=>h.block k hk (by simp)⟩
theorem grown_but {p:Nat} {w w':World} {o:Option Nat} (ho:o=none\/o=some p) (h:w.grownBy w' o):But p w w':=by
 rcases ho with rfl|rfl
 ·exact But.of p (grown_below h)
 ·exact h
theorem below_grown0 {w w':World} (h:Below w.heap.size w w'):w.grownBy w' none:=⟨h.os,h.tape,h.output,h.size,fun k hk _=>h.block k hk⟩
def fp1 (p:Nat) (i:Nat):Option Nat:=if i=2 then some p else none
theorem fp1_or (p i:Nat):fp1 p i=none\/fp1 p i=some p:=by unfold fp1;split<;>simp
structure KF (p g ob L:Nat) (ty:Nat->Int) (a b:Nat->Value) (q br bf:Nat) (W w:World):Prop where
 but:But p W w
 hr:w.heap[br]?=some (.cells #[.pointer (some ⟨p,0,none⟩)] 43 (0,0))
 hx:w.heap[bf]?=some (.cells #[.pointer (some ⟨g,ob+q*3,none⟩)] 97 (0,0))
 fb:FB g ob L ty a b w
theorem KF.on {p g ob L:Nat} {ty:Nat->Int} {a b:Nat->Value} {q br bf:Nat} {W w w':World} (h:KF p g ob L ty a b q br bf W w) (hgp:g≠p) (hrp:br≠p) (hfp:bf≠p) (hb:But p w w'):KF p g ob L ty a b q br bf W w' :=
 ⟨h.but.trans hb,but_heap hb hrp h.hr,but_heap hb hfp h.hx,h.fb.keep (hb.block g h.fb.lt (by simpa using hgp))⟩
def G1 {α:Type} (V:α->Value->World->Prop) (RD:α->World->Prop) (X:Option α) (p g o:Nat) (f:Nat):Nat->Value->World->Prop
 | 0,v,_=>v=.pointer (some ⟨g,o,none⟩)
 | 1,v,_=>v=.pointer (some ⟨p,0,none⟩)
 | 2,v,w=>match X with
  | some x=>V x v w/\RD x w
  | none=>False
 | 3,v,_=>v=.pointer (some ⟨g,o,none⟩)
 | _,v,_=>v=.pointer (some ⟨g,o+f,none⟩)
theorem len5 {l:List Value} (h:l.length=5):∃a b c d e,l = [a,b,c,d,e]:=by
 match l,h with
 | [a,b,c,d,e],_=>exact ⟨a,b,c,d,e,rfl⟩
end Dec
set_option maxRecDepth 100000 in
set_option maxHeartbeats 1000000 in
theorem dFn1 (w0:World) (p:Nat) (s:ByteArray) (c:Nat->Value) (en k i n g ob L:Nat) (ty:Nat->Int) (a b:Nat->Value) (q br bf:Nat) (w:World) (h:RS w0 p s c en k i n w) (hn:n<=65536) (hf:FB g ob L ty a b w) (hq:q<L) (hgp:g≠p) (hg0:w0.heap.size<=g) (hrg:br≠g) (hfg:bf≠g) (hrp:br≠p) (hfp:bf≠p)
  (hr:w.heap[br]?=some (.cells #[.pointer (some ⟨p,0,none⟩)] 43 (0,0))) (hx:w.heap[bf]?=some (.cells #[.pointer (some ⟨g,ob+q*3,none⟩)] 97 (0,0))) :
  Calls Tryd.prog 50 #[.pointer (some ⟨br,0,none⟩),.pointer (some ⟨bf,0,none⟩)] w (FnR w0 p s c en k g ob L ty a b q w (rfun s en i n)):=by
 have hd:Below w.heap.size w w.drew:=⟨rfl,rfl,rfl,Nat.le_refl _,fun _ _=>rfl⟩
 have HL:=fun u hu=>hideR (dLocals w0 p s c en k i n u hu)
 have HK:Hid (KF p g ob L ty a b q br bf w w.drew):=hideR ⟨But.of p hd,heap_on hd hr,heap_on hd hx,hf.keep (hd.block g hf.lt)⟩
 have HR:=hideR (h.on hd)
 have hgw0:=hf.lt
 have hpw0:=h.lt
 unfold rfun
 generalize rlocals s en i=X at HL ⊢
 clear h hf hr hx hd
 go_enter Tryd.func50,Tryd.ntmps50
 go_wp2_with fail
 refine Reg.wp_region_eff 5 (fun i=>2+i) (fp1 p) (KF p g ob L ty a b q br bf w) (fun j u=>j=2->RS w0 p s c en k i n u) (G1 (fun (x:List Int × Nat) v u=>IntsS u (Since w.heap.size u none) v x.1) (fun x u=>RS w0 p s c en k x.2 n u) (match X with | .ok x=>some x | .error _=>none) p g (ob+q*3) 1) (by kernel_rfl) (by kernel_rfl) (fun i j h1 h2 h=>by have h':2+i=2+j:=h;omega) (Reg.dst_ok (size:=12) (by kernel_rfl)) ?hstab ?hres ?hK ?hstep ?htail HK.out (fun j hj e=>HR.out)
 case hK=>exact fun k' u u' hk hKu hg=>hKu.on hgp hrp hfp (grown_but (fp1_or p k') hg)
 case hres =>
  intro i' k' u u' hi hk hne hRu hg e
  subst e
  have:fp1 p k'=none:=by unfold fp1;rw [if_neg (by omega)]
  rw [this] at hg
  exact (hRu rfl).on (grown_below hg)
 case hstab =>
  intro i' k' v u u' hi hk hne hKu hG hg
  match i',hi with
  | 0,_=>exact hG
  | 1,_=>exact hG
  | 2,_ =>
   have:fp1 p k'=none:=by unfold fp1;rw [if_neg (by omega)]
   rw [this] at hg
   cases X with
   | error z=>exact hG
   | ok x=>exact ⟨IntsS.keep (since_below (grown_below hg)) hG.1,RS.on hG.2 (grown_below hg)⟩
  | 3,_=>exact hG
  | 4,_=>exact hG
 case hstep =>
  intro j o a1 u hj ho hF hKu hRu hd
  have c1:=box_cell hKu.hr
  have c2:=box_cell hKu.hx
  have q0:a1.tmps[0]?.getD undef=.pointer (some ⟨br,0,none⟩):=Reg.ev_get (hF.eval 0 (fun i hi=>by show 2+i≠0;omega))
  have q1:a1.tmps[1]?.getD undef=.pointer (some ⟨bf,0,none⟩):=Reg.ev_get (hF.eval 1 (fun i hi=>by show 2+i≠1;omega))
  have hcase:j=0\/j=1\/j=2\/j=3\/j=4:=by omega
  clear hj
  rcases hcase with rfl|rfl|rfl|rfl|rfl
  all_goals (simp only [List.getElem?_toArray,List.getElem?_cons_succ,List.getElem?_cons_zero,Option.some.injEq] at ho;subst ho;refine Reg.step_k fun K hK=>?_)
  ·go_simp
   exact hK _ _ ⟨_,rfl,below_grown0 (Below.refl _ _),rfl⟩
  ·go_simp
   exact hK _ _ ⟨_,rfl,below_grown0 (Below.refl _ _),rfl⟩
  ·have q3:a1.tmps[3]?.getD undef=.pointer (some ⟨p,0,none⟩):=Reg.ev_get (hd 1 (by decide))
   go_simp
   refine (HL u (hRu rfl)).out.mono ?_
   intro e u2 hr2
   cases X with
   | error z =>
    obtain ⟨rfl,hb⟩:=hr2
    exact ⟨hF.defers,rfl,hb⟩
   | ok x =>
    obtain ⟨l,j⟩:=x
    obtain ⟨⟨v,rfl,hv⟩,h1,h2⟩:=hr2
    exact hK _ _ ⟨_,rfl,h2,IntsS.keep (fun k' hk'=>⟨⟨Nat.le_trans hKu.but.size hk'.1,hk'.2⟩,rfl⟩) hv,h1⟩
  ·have q2:a1.tmps[2]?.getD undef=.pointer (some ⟨g,ob+q*3,none⟩):=Reg.ev_get (hd 0 (by decide))
   go_simp
   exact hK _ _ ⟨_,rfl,below_grown0 (Below.refl _ _),rfl⟩
  ·have q2:a1.tmps[5]?.getD undef=.pointer (some ⟨g,ob+q*3,none⟩):=Reg.ev_get (hd 3 (by decide))
   go_simp
   exact hK _ _ ⟨_,rfl,below_grown0 (Below.refl _ _),rfl⟩
 case htail =>
  intro a1 u hF hKu hG
  have hG2:=hG 2 (by omega)
  cases X with
  | error z=>exact absurd hG2 id
  | ok x =>
   obtain ⟨l,j⟩:=x
   obtain ⟨hv,hrs⟩:=hG2
   have hv:IntsS u (Since w.heap.size u none) (a1.eval (.tmp 4)) l:=hv
   have hrs:RS w0 p s c en k j n u:=hrs
   have g4:a1.eval (.tmp 6)=.pointer (some ⟨g,ob+q*3+1,none⟩):=hG 4 (by omega)
   obtain ⟨xl,hxl,rfl,hev⟩:=hF.lit (by simp)
   obtain ⟨x0,x1,x2,x3,x4,rfl⟩:=len5 hxl
   have e2:=hev 2 (by omega)
   have e4:=hev 4 (by omega)
   simp only [List.getD_cons_succ,List.getD_cons_zero] at e2 e4
   rw [show (2+4)=6 from rfl,g4] at e4
   rw [show (2+2)=4 from rfl] at e2
   rw [e2] at hv
   subst e4
   clear hev hxl hF hG g4 e2 HL HR HK
   obtain ⟨oV,kV,rfl⟩:=Row.len hv
   have c1:=(hKu.fb.cell hq).2.1
   have f1:=hKu.fb.frz (ob+q*3+1)
   obtain ⟨W1,hW1⟩:∃W1,W1=u.setCell ⟨g,ob+q*3+1,none⟩ (.slice oV l.length kV):=⟨_,rfl⟩
   have hB1:Bu2 p g w W1:=by rw [hW1];exact (Bu2.of hKu.but).trans (Bu2.set p g _ u _)
   have hF1:FB g ob L ty (upd a q (.slice oV l.length kV)) b W1:=by rw [hW1];exact hKu.fb.setA hq _
   have hR1:RS w0 p s c en k j n W1:=by rw [hW1];exact hrs.other hgp hg0 _ _
   have hgw:g<w.heap.size:=hgw0
   have hS1:IntsS W1 (fun k'=>w.heap.size<=k'/\k'<W1.heap.size) (.slice oV l.length kV) l:=by
    rw [hW1]
    exact hv.keep fun k' hk'=>⟨⟨hk'.1,by simpa using hk'.2.1⟩,Below.heap_setCell _ _ _ _ (by show k'≠g;have:=hk'.1;omega)⟩
   have hr1:W1.heap[br]?=some (.cells #[.pointer (some ⟨p,0,none⟩)] 43 (0,0)):=by rw [hW1,Below.heap_setCell _ _ _ _ (by exact hrg)];exact hKu.hr
   have hx1:W1.heap[bf]?=some (.cells #[.pointer (some ⟨g,ob+q*3,none⟩)] 97 (0,0)):=by rw [hW1,Below.heap_setCell _ _ _ _ (by exact hfg)];exact hKu.hx
   have HW1:=hideR hW1
   have HB1:=hideR hB1
   have HS1:=hideR hS1
   have hd1:Below W1.heap.size W1 W1.drew:=⟨rfl,rfl,rfl,Nat.le_refl _,fun _ _=>rfl⟩
   have HK1:Hid (KF p g ob L ty (upd a q (.slice oV l.length kV)) b q br bf W1 W1.drew):=hideR ⟨But.of p hd1,heap_on hd1 hr1,heap_on hd1 hx1,hF1.keep (hd1.block g hF1.lt)⟩
   have HR1:=hideR (hR1.on hd1)
   have HE:=fun u hu=>hideR (dExpression w0 p s c en k j n u hu hn)
   clear hd1 hr1 hx1 hR1 hF1 hB1 hS1 hv hrs hKu hW1
   simp only [List.take_succ_cons,List.take_zero,List.drop_succ_cons,List.drop_zero,List.cons_append,List.nil_append]
   show wpList _ _ _ _ _ _
   generalize l.length=nl at *
   go_wp2_with fail
   rw [<- HW1.out]
   clear HW1
   show Code.wp _ _ _ _ _
   generalize hY:rexpr s en j n=Y at HE
   refine Reg.wp_region_eff 5 (fun i=>7+i) (fp1 p) (KF p g ob L ty (upd a q (.slice oV nl kV)) b q br bf W1) (fun j' u=>j'=2->RS w0 p s c en k j n u) (G1 (fun (x:IL 81 × Nat × Nat) v u=>AtS u (Since W1.heap.size u none) 81 v x.1) (fun x u=>RS w0 p s c en k x.2.1 x.2.2 u) (match Y with | .ok x=>some x | .error _=>none) p g (ob+q*3) 2) (by kernel_rfl) (by kernel_rfl) (fun i j h1 h2 h=>by have h':7+i=7+j:=h;omega) (Reg.dst_ok (size:=12) (by kernel_rfl)) ?hstab ?hres ?hK ?hstep ?htail HK1.out (fun j hj e=>HR1.out)
   case hK=>exact fun k' u u' hk hKu hg=>hKu.on hgp hrp hfp (grown_but (fp1_or p k') hg)
   case hres =>
    intro i' k' u u' hi hk hne hRu hg e
    subst e
    have:fp1 p k'=none:=by unfold fp1;rw [if_neg (by omega)]
    rw [this] at hg
    exact (hRu rfl).on (grown_below hg)
   case hstab =>
    intro i' k' v u u' hi hk hne hKu hG hg
    match i',hi with
    | 0,_=>exact hG
    | 1,_=>exact hG
    | 2,_ =>
     have:fp1 p k'=none:=by unfold fp1;rw [if_neg (by omega)]
     rw [this] at hg
     cases Y with
     | error z=>exact hG
     | ok x=>exact ⟨AtS.keep (since_below (grown_below hg)) _ _ _ hG.1,RS.on hG.2 (grown_below hg)⟩
    | 3,_=>exact hG
    | 4,_=>exact hG
   case hstep =>
    intro j' o a1 u hj ho hF hKu hRu hd
    have c1:=box_cell hKu.hr
    have c2:=box_cell hKu.hx
    have q0:a1.tmps[0]?.getD undef=.pointer (some ⟨br,0,none⟩):=Reg.ev_get (hF.eval 0 (fun i hi=>by show 7+i≠0;omega))
    have q1:a1.tmps[1]?.getD undef=.pointer (some ⟨bf,0,none⟩):=Reg.ev_get (hF.eval 1 (fun i hi=>by show 7+i≠1;omega))
    have hcase:j'=0\/j'=1\/j'=2\/j'=3\/j'=4:=by omega
    clear hj
    rcases hcase with rfl|rfl|rfl|rfl|rfl
    all_goals (simp only [List.getElem?_toArray,List.getElem?_cons_succ,List.getElem?_cons_zero,Option.some.injEq] at ho;subst ho;refine Reg.step_k fun K hK=>?_)
    ·go_simp
     exact hK _ _ ⟨_,rfl,below_grown0 (Below.refl _ _),rfl⟩
    ·go_simp
     exact hK _ _ ⟨_,rfl,below_grown0 (Below.refl _ _),rfl⟩
    ·have q3:a1.tmps[8]?.getD undef=.pointer (some ⟨p,0,none⟩):=Reg.ev_get (hd 1 (by decide))
     go_simp
     refine (HE u (hRu rfl)).out.mono ?_
     intro e u2 hr2
     cases Y with
     | error z =>
      obtain ⟨rfl,hb⟩:=hr2
      refine ⟨hF.defers,?_⟩
      show FnR w0 p s c en k g ob L ty a b q w (bd2 (rexpr s en j n) fun b j2 m2=>.ok ((l,b),j2,m2)) _ _
      rw [hY]
      exact ⟨rfl,hb⟩
     | ok x =>
      obtain ⟨l2,j2,m2⟩:=x
      obtain ⟨⟨v,rfl,o9,n9,k9,rfl,hv⟩,h1,h2⟩:=hr2
      exact hK _ _ ⟨_,rfl,h2,AtS.keep (fun k' hk'=>⟨⟨Nat.le_trans hKu.but.size hk'.1,hk'.2⟩,rfl⟩) _ _ _ hv,h1⟩
    ·have q2:a1.tmps[7]?.getD undef=.pointer (some ⟨g,ob+q*3,none⟩):=Reg.ev_get (hd 0 (by decide))
     go_simp
     exact hK _ _ ⟨_,rfl,below_grown0 (Below.refl _ _),rfl⟩
    ·have q2:a1.tmps[10]?.getD undef=.pointer (some ⟨g,ob+q*3,none⟩):=Reg.ev_get (hd 3 (by decide))
     go_simp
     exact hK _ _ ⟨_,rfl,below_grown0 (Below.refl _ _),rfl⟩
   case htail =>
    intro a1 u hF hKu hG
    have hG2:=hG 2 (by omega)
    cases Y with
    | error z=>exact absurd hG2 id
    | ok x =>
     obtain ⟨l2,j2,m2⟩:=x
     obtain ⟨hv,hrs⟩:=hG2
     have hv:AtS u (Since W1.heap.size u none) 81 (a1.eval (.tmp 9)) l2:=hv
     have hrs:RS w0 p s c en k j2 m2 u:=hrs
     have g4:a1.eval (.tmp 11)=.pointer (some ⟨g,ob+q*3+2,none⟩):=hG 4 (by omega)
     obtain ⟨xl,hxl,rfl,hev⟩:=hF.lit (by simp)
     obtain ⟨y0,y1,y2,y3,y4,rfl⟩:=len5 hxl
     have e2:=hev 2 (by omega)
     have e4:=hev 4 (by omega)
     simp only [List.getD_cons_succ,List.getD_cons_zero] at e2 e4
     rw [show (7+4)=11 from rfl,g4] at e4
     rw [show (7+2)=9 from rfl] at e2
     rw [e2] at hv
     subst e4
     clear hev hxl hF hG g4 e2 HE HR1 HK1
     obtain ⟨oW,kW,rfl⟩:=At.len 81 _ _ (AtS.at 81 _ _ hv)
     have c1:=(hKu.fb.cell hq).2.2
     have f1:=hKu.fb.frz (ob+q*3+2)
     obtain ⟨W2,hW2⟩:∃W2,W2=u.setCell ⟨g,ob+q*3+2,none⟩ (.slice oW (size 81 l2) kW):=⟨_,rfl⟩
     have hs1:w.heap.size<=W1.heap.size:=HB1.out.size
     have hB2:Bu2 p g w W2:=by rw [hW2];exact HB1.out.trans ((Bu2.of hKu.but).trans (Bu2.set p g _ u _))
     have hF2:FB g ob L ty (upd a q (.slice oV nl kV)) (upd b q (.slice oW (size 81 l2) kW)) W2:=by rw [hW2];exact hKu.fb.setB hq _
     have hR2:RS w0 p s c en k j2 m2 W2:=by rw [hW2];exact hrs.other hgp hg0 _ _
     have hpw:p<w.heap.size:=hpw0
     have hA2:AtS W2 (Since w.heap.size W2 none) 81 (.slice oW (size 81 l2) kW) l2:=by
      rw [hW2]
      exact AtS.keep (fun k' hk'=>⟨⟨Nat.le_trans hs1 hk'.1,by simpa using hk'.2.1,by simp⟩,Below.heap_setCell _ _ _ _ (by show k'≠g;have:=hk'.1;omega)⟩) _ _ _ hv
     have hS2:IntsS W2 (Since w.heap.size W2 none) (.slice oV nl kV) l:=by
      rw [hW2]
      exact HS1.out.keep fun k' hk'=>⟨⟨hk'.1,by have:=hKu.but.size;have:=hk'.2;simp;omega,by simp⟩,by
       rw [Below.heap_setCell _ _ _ _ (by show k'≠g;have:=hk'.1;omega)]
       exact hKu.but.block k' hk'.2 (by have:=hk'.1;simp;omega)⟩
     have HFIN:Hid (FnR w0 p s c en k g ob L ty a b q w (bd2 (.ok (l2,j2,m2)) fun b j2 m2=>.ok ((l,b),j2,m2)) (.returned (.tuple #[])) W2):=hideR ⟨rfl,⟨_,_,hR2,hF2,hS2,hA2⟩,hB2⟩
     have HW2:=hideR hW2
     clear hB2 hF2 hR2 hA2 hS2 hKu hrs hv hW2
     simp only [List.take_succ_cons,List.take_zero,List.drop_succ_cons,List.drop_zero,List.cons_append,List.nil_append]
     generalize size 81 l2=n2 at *
     go_wp2
     go_end0
     rw [<- HW2.out]
     show FnR w0 p s c en k g ob L ty a b q w (bd2 (rexpr s en j n) fun b j2 m2=>.ok ((l,b),j2,m2)) _ _
     rw [hY]
     exact HFIN.out
end Go.Proofs.YtgbbmdknbflilaaDoor

namespace Go.Proofs.YtgbbmdknbflilaaDoor
open Go.RowKit Rep Dec
set_option linter.unusedVariables false
namespace Dec
def rsizedF (s:ByteArray) (en i n:Nat):R2 (List Int × IL 81) :=
 bd2 (lift (ru s en i) n) fun z j m=>bd2 (rfun s (min en (j+z.toNat)) j m) fun x m2 n2=>if m2=j+z.toNat then .ok (x,m2,n2) else .error 50
end Dec
set_option maxRecDepth 100000 in
set_option maxHeartbeats 4000000 in
theorem dSizedF (w0:World) (p:Nat) (s:ByteArray) (c:Nat->Value) (en k i n g ob L:Nat) (ty:Nat->Int) (a b:Nat->Value) (q br bf:Nat) (w:World) (h:RS w0 p s c en k i n w) (hn:n<=65536) (hf:FB g ob L ty a b w) (hq:q<L) (hgp:g≠p) (hg0:w0.heap.size<=g) (hrg:br≠g) (hfg:bf≠g) (hrp:br≠p) (hfp:bf≠p)
  (hr:w.heap[br]?=some (.cells #[.pointer (some ⟨p,0,none⟩)] 43 (0,0))) (hx:w.heap[bf]?=some (.cells #[.pointer (some ⟨g,ob+q*3,none⟩)] 97 (0,0))) :
  Calls Tryd.prog 15 #[.pointer (some ⟨p,0,none⟩),.func (.func 50) #[] #[.pointer (some ⟨br,0,none⟩),.pointer (some ⟨bf,0,none⟩)]] w (FnR w0 p s c en k g ob L ty a b q w (rsizedF s en i n)):=by
 have HC:=hideR (dUns w0 p s c en k i n w h)
 unfold rsizedF
 cases hR:ru s en i with
 | error z =>
  rw [hR] at HC
  clear h hf hr hx
  go_enter Tryd.func15,Tryd.ntmps15
  go_wp2_with fail
  refine HC.out.mono ?_
  rintro e u ⟨rfl,hb⟩
  exact ⟨rfl,rfl,hb⟩
 | ok vv =>
  obtain ⟨zi,j⟩:=vv
  obtain ⟨hij,hjen,hz0,hz1⟩:=ru_ok h.len hR
  rw [hR] at HC
  obtain ⟨z,rfl⟩:=Int.eq_ofNat_of_zero_le hz0
  have hlen:=h.len
  have hbig:=h.big
  have hpw:=h.lt
  have hgw:=hf.lt
  clear h hR
  show Calls _ _ _ _ (FnR w0 p s c en k g ob L ty a b q w (bd2 (rfun s (min en (j+z)) j n) fun x m2 n2=>if m2=j+z then .ok (x,m2,n2) else .error 50))
  have HI:Hid (∀(u1:World) (E:Nat),RS w0 p s c en k j n u1->But p w u1->j<=E->E<=en->Calls Tryd.prog 50 #[.pointer (some ⟨br,0,none⟩),.pointer (some ⟨bf,0,none⟩)] (u1.setCell ⟨p,2,none⟩ (.int .i64 E)) (fun e w'=>FnR w0 p s c E k g ob L ty a b q (u1.setCell ⟨p,2,none⟩ (.int .i64 E)) (rfun s E j n) e w')):=hideR fun u1 E h1 hB hE1 hE2=>by
   have hbu:But p w (u1.setCell ⟨p,2,none⟩ (.int .i64 E)):=hB.trans (But.set p 2 u1 _)
   exact dFn1 w0 p s c E k j n g ob L ty a b q br bf _ (h1.end_ hE1 (by omega)) hn (hf.keep (hbu.block g hgw (by simpa using hgp))) hq hgp hg0 hrg hfg hrp hfp (but_heap hbu hrp hr) (but_heap hbu hfp hx)
  have HJ:Hid (∀(u1:World) (E:Nat) (w3:World) (x:List Int × IL 81) (m n3:Nat),But p w u1->FnR w0 p s c E k g ob L ty a b q (u1.setCell ⟨p,2,none⟩ (.int .i64 E)) (.ok (x,m,n3)) (.returned (.tuple #[])) w3->E<=en ->
    FnR w0 p s c en k g ob L ty a b q w (.ok (x,m,n3)) (.returned (.tuple #[])) (w3.setCell ⟨p,2,none⟩ (.int .i64 en))/\w3.cell? ⟨p,1,none⟩=some (.int .i64 m)/\w3.cell? ⟨p,2,none⟩=some (.int .i64 E)/\w3.frozen? ⟨p,2,none⟩=false/\Below w0.heap.size w0 w3):=hideR fun u1 E w3 x m n3 hB ⟨_,⟨vl,vb,h3,f3,i3,a3⟩,b3⟩ hE=>by
   have hbs:=But.set p 2 w3 (.int .i64 (en:Int))
   have hbu:But p w (u1.setCell ⟨p,2,none⟩ (.int .i64 E)):=hB.trans (But.set p 2 u1 _)
   have hkp:∀k',Since (u1.setCell ⟨p,2,none⟩ (.int .i64 E)).heap.size w3 none k'->Since w.heap.size (w3.setCell ⟨p,2,none⟩ (.int .i64 en)) none k'/\(w3.setCell ⟨p,2,none⟩ (.int .i64 en)).heap[k']?=w3.heap[k']?:=fun k' hk'=>by
    have h1:=hk'.1
    have h2:=hbu.size
    exact ⟨⟨by omega,by simpa using hk'.2.1,by simp⟩,hbs.block k' hk'.2.1 (by simp;omega)⟩
   exact ⟨⟨rfl,⟨vl,vb,h3.end_ (Nat.le_trans h3.le hE) hlen,f3.keep (hbs.block g f3.lt (by simpa using hgp)),i3.keep hkp,AtS.keep hkp _ _ _ a3⟩,((Bu2.of hbu).trans b3).trans (Bu2.of hbs)⟩,h3.cell 1 _ rfl,h3.cell 2 _ rfl,h3.frz 2,h3.below⟩
  have HX:=hideR (fun u1 h1 hB=>HI.out u1 (min en (j+z)) h1 hB (by omega) (by omega))
  have HJJ:=hideR (fun u1 w3 x m n3 hB hx=>HJ.out u1 (min en (j+z)) w3 x m n3 hB hx (by omega))
  clear HI HJ hf hr hx
  rw [show ((min en (j+z):Nat):Int)=min (en:Int) ((j:Int)+(z:Int)) by omega] at HX HJJ
  generalize rfun s (min en (j+z)) j n=X at HX ⊢
  have fin:Hid (∀e w',FnR w0 p s c en k g ob L ty a b q w (bd2 X fun x m2 n2=>if m2=j+z then .ok (x,m2,n2) else .error 50) e w'->FnR w0 p s c en k g ob L ty a b q w (bd2 X fun x m2 n2=>if m2=j+z then .ok (x,m2,n2) else .error 50) e w'):=hideR fun _ _ h=>h
  go_enter Tryd.func15,Tryd.ntmps15
  go_wp2_with fail
  refine HC.out.mono ?_
  rintro e u ⟨⟨v,rfl,hv⟩,h1,h2⟩
  have hv:v=.int .i64 z:=hv
  subst hv
  have d1:=h1.cell 1 _ rfl
  have d2:=h1.cell 2 _ rfl
  have H1:=hideR h1
  have H2:=hideR h2
  clear h1 h2 HC hv
  go_wp2_with fail
  go_quiet (fail)
  have h1':=H1.out.on (below_drewN' u nq)
  have hBu:But p w (u.drewN nq):=H2.out.trans (But.of p (below_drewN' u nq))
  generalize u.drewN nq=u1 at *
  clear d1 d2 H1 H2
  have e1:=h1'.cell 1 _ rfl
  have e2:=h1'.cell 2 _ rfl
  have f2:=h1'.frz 2
  have H1:=hideR h1'
  have HB:=hideR hBu
  clear h1' hBu
  go_wp2_with fail
  refine (HX.out u1 H1.out HB.out).mono ?_
  intro e w3 hr
  cases X with
  | error zz =>
   obtain ⟨rfl,hb⟩:=hr
   exact ⟨rfl,rfl,hb⟩
  | ok vv =>
   obtain ⟨x,m,n3⟩:=vv
   obtain ⟨rfl,hrr⟩:=hr
   obtain ⟨hr3,c1,c2,f3,hbe⟩:=HJJ.out u1 w3 x m n3 HB.out ⟨rfl,hrr⟩
   have HR3:=hideR hr3
   have HBE:=hideR hbe
   clear hr3 hrr hbe HX HJJ H1 HB e1 e2 f2
   by_cases hm:m=j+z
   ·have dm:((m:Int) == (j:Int)+(z:Int))=true:=by simp;omega
    go_wp2_with fail
    refine (needY _ _).mono ?_
    rintro e w' ⟨rfl,rfl⟩
    go_wp2
    go_end0
    refine fin.out _ _ ?_
    show FnR w0 p s c en k g ob L ty a b q w (if m=j+z then .ok (x,m,n3) else .error 50) _ _
    rw [if_pos hm]
    exact HR3.out
   ·have dm:((m:Int) == (j:Int)+(z:Int))=false:=by simp;omega
    go_wp2_with fail
    refine (needN _ _).mono ?_
    rintro e w' ⟨rfl,rfl⟩
    refine ⟨rfl,fin.out _ _ ?_⟩
    show FnR w0 p s c en k g ob L ty a b q w (if m=j+z then .ok (x,m,n3) else .error 50) _ _
    rw [if_neg hm]
    exact ⟨rfl,HBE.out⟩
end Go.Proofs.YtgbbmdknbflilaaDoor

