/- Texts that the claim needs. -/
import Derived.Test.YtgbbmdknbflilaaDoorQDcu20
namespace Go.Proofs.YtgbbmdknbflilaaDoor
open Go.RowKit Rep Dec
set_option linter.unusedVariables false
namespace Dec
theorem RS.end_ {w0 w:World} {p:Nat} {s:ByteArray} {c:Nat->Value} {en k i n:Nat} (h:RS w0 p s c en k i n w) {m:Nat} (h1:i<=m) (h2:m<=s.size):RS w0 p s c m k i n (w.setCell ⟨p,2,none⟩ (.int .i64 m)) :=
 ⟨h.below.setCell h.base _,h.base,heap_setCell_same w p 2 _ _ _ h.blk,h1,h2,h.big⟩
structure ButT (p:Nat) (w w':World):Prop where
 os:w'.os=w.os
 tape:w'.tape=w.tape
 output:w'.output=w.output
 size:w.heap.size<=w'.heap.size
 block:∀k,k<w.heap.size->k≠p->(∀cur z,w.heap[k]?≠some (.cells cur 67 z))->w'.heap[k]?=w.heap[k]?
theorem But.t {p:Nat} {w w':World} (h:But p w w'):ButT p w w':=⟨h.os,h.tape,h.output,h.size,fun k hk hp _=>h.block k hk (by simpa using hp)⟩
theorem ButT.trans {p:Nat} {w w' u:World} (h:ButT p w w') (h':ButT p w' u):ButT p w u :=
 ⟨h'.os.trans h.os,h'.tape.trans h.tape,h'.output.trans h.output,Nat.le_trans h.size h'.size,fun k hk hp hf=>(h'.block k (Nat.lt_of_lt_of_le hk h.size) hp (by rw [h.block k hk hp hf];exact hf)).trans (h.block k hk hp hf)⟩
def Sec (σ:Type):=σ->Nat->Nat->R σ
def Keeps5 {σ:Type} (p:Nat) (M:σ->(Nat->Value)->Nat->Nat->World->Prop):Prop:=∀st c k n w w',M st c k n w->But p w w'->M st c k n w'
def SecR {σ:Type} (w0:World) (p:Nat) (s:ByteArray) (M:σ->(Nat->Value)->Nat->Nat->World->Prop) (en:Nat) (w:World) (x:R σ) (e:Ending) (w':World):Prop :=
 match x with
 | .ok (st,j)=>e=.returned (.tuple #[])/\(∃c k n,RS w0 p s c en k j n w'/\M st c k n w')/\ButT p w w'
 | .error z=>e=.panicked (gave z)/\Below w0.heap.size w0 w'
def SecSays {σ:Type} (w0:World) (p:Nat) (s:ByteArray) (M:σ->(Nat->Value)->Nat->Nat->World->Prop) (sec:Sec σ) (id:Int):Prop :=
 ∀st c en k i n w,RS w0 p s c en k i n w->M st c k n w->Calls Tryd.prog 17 #[.pointer (some ⟨p,0,none⟩),.int .i64 id] w (SecR w0 p s M en w (sec st en i))
def rsized {σ:Type} (sec:Sec σ) (s:ByteArray) (st:σ) (en i:Nat):R σ :=
 bd (ru s en i) fun z j=>bd (sec st (min en (j+z.toNat)) j) fun st' m=>if m=j+z.toNat then .ok (st',m) else .error 50
theorem bel_unset {w0 w:World} {p o:Nat} {v:Value} (h:Below w0.heap.size w0 (w.setCell ⟨p,o,none⟩ v)) (hp:w0.heap.size<=p):Below w0.heap.size w0 w :=
 ⟨h.os,h.tape,h.output,by have:=h.size;simpa using this,fun k hk=>by rw [<- h.block k hk,Below.heap_setCell _ _ _ _ (by show k≠p;omega)]⟩
theorem but_cell {p:Nat} {w w':World} (h:But p w w') {b o:Nat} {v:Value} (hb:b≠p) (hc:w.cell? ⟨b,o,none⟩=some v):w'.cell? ⟨b,o,none⟩=some v :=
 World.grownBy.cell h hc (by simp [hb])
end Dec
set_option maxRecDepth 100000 in
set_option maxHeartbeats 4000000 in
theorem dInner {σ:Type} {w0:World} {p:Nat} {s:ByteArray} {M:σ->(Nat->Value)->Nat->Nat->World->Prop} {sec:Sec σ} {id:Int} (hS:SecSays w0 p s M sec id) (st:σ) (c:Nat->Value) (en k i n br bi:Nat) (w:World) (h:RS w0 p s c en k i n w) (hM:M st c k n w)
  (cr:w.cell? ⟨br,0,none⟩=some (.pointer (some ⟨p,0,none⟩))) (ci:w.cell? ⟨bi,0,none⟩=some (.int .i64 id)) :
  Calls Tryd.prog 16 #[.pointer (some ⟨br,0,none⟩),.pointer (some ⟨bi,0,none⟩)] w (SecR w0 p s M en w (sec st en i)):=by
 have HC:=hideR (hS st c en k i n w h hM)
 clear h hM hS
 generalize sec st en i=X at HC ⊢
 go_enter Tryd.func16,Tryd.ntmps16
 go_wp2_with fail
 refine HC.out.mono ?_
 intro e u hr
 cases X with
 | error z =>
  obtain ⟨rfl,hb⟩:=hr
  exact ⟨rfl,rfl,hb⟩
 | ok v =>
  obtain ⟨l,j⟩:=v
  obtain ⟨rfl,hr⟩:=hr
  have HR:=hideR hr
  clear hr HC
  go_wp2
  go_end0
  exact ⟨rfl,HR.out⟩
set_option maxRecDepth 100000 in
set_option maxHeartbeats 4000000 in
theorem dSized {σ:Type} {w0:World} {p:Nat} {s:ByteArray} {M:σ->(Nat->Value)->Nat->Nat->World->Prop} (hK:Keeps5 p M) {sec:Sec σ} {id:Int} (hS:SecSays w0 p s M sec id) (st:σ) (c:Nat->Value) (en k i n br bi:Nat) (w:World) (h:RS w0 p s c en k i n w) (hM:M st c k n w)
  (cr:w.cell? ⟨br,0,none⟩=some (.pointer (some ⟨p,0,none⟩))) (ci:w.cell? ⟨bi,0,none⟩=some (.int .i64 id)) (hbr:br≠p) (hbi:bi≠p) :
  Calls Tryd.prog 15 #[.pointer (some ⟨p,0,none⟩),.func (.func 16) #[] #[.pointer (some ⟨br,0,none⟩),.pointer (some ⟨bi,0,none⟩)]] w (SecR w0 p s M en w (rsized sec s st en i)):=by
 have HC:=hideR (dUns w0 p s c en k i n w h)
 have H:=hideR h
 have HM:=hideR hM
 unfold rsized
 cases hR:ru s en i with
 | error z =>
  rw [hR] at HC
  clear h hM
  go_enter Tryd.func15,Tryd.ntmps15
  go_wp2_with fail
  refine HC.out.mono ?_
  rintro e u ⟨rfl,hb⟩
  exact ⟨rfl,rfl,hb⟩
 | ok vv =>
  obtain ⟨zi,j⟩:=vv
  obtain ⟨hij,hjen,hz0,hz1⟩:=ru_ok h.len hR
  rw [hR] at HC
  obtain ⟨z,rfl⟩:=Int.eq_ofNat_of_zero_le hz0
  have hlen:=h.len
  have hbig:=h.big
  clear h hM hR
  rw [bd_ok,show Int.toNat (z:Int)=z from rfl]
  have HI:Hid (∀(u1:World) (E:Nat),RS w0 p s c en k j n u1->But p w u1->j<=E->E<=en->Calls Tryd.prog 16 #[.pointer (some ⟨br,0,none⟩),.pointer (some ⟨bi,0,none⟩)] (u1.setCell ⟨p,2,none⟩ (.int .i64 E)) (fun e w'=>SecR w0 p s M E (u1.setCell ⟨p,2,none⟩ (.int .i64 E)) (sec st E j) e w')):=hideR fun u1 E h1 hB hE1 hE2=>by
   have hbu:But p w (u1.setCell ⟨p,2,none⟩ (.int .i64 E)):=hB.trans (But.set p 2 u1 _)
   exact dInner hS st c E k j n br bi _ (h1.end_ hE1 (by omega)) (hK _ _ _ _ _ _ HM.out hbu) (but_cell hbu hbr cr) (but_cell hbu hbi ci)
  have HJ:Hid (∀(u1:World) (E:Nat) (w3:World) (st':σ) (m:Nat),But p w u1->ButT p (u1.setCell ⟨p,2,none⟩ (.int .i64 E)) w3->(∃c k n,RS w0 p s c E k m n w3/\M st' c k n w3)->E<=en ->
    ((∃c k n,RS w0 p s c en k m n (w3.setCell ⟨p,2,none⟩ (.int .i64 en))/\M st' c k n (w3.setCell ⟨p,2,none⟩ (.int .i64 en)))/\ButT p w (w3.setCell ⟨p,2,none⟩ (.int .i64 en)))/\w3.cell? ⟨p,1,none⟩=some (.int .i64 m)/\w3.cell? ⟨p,2,none⟩=some (.int .i64 E)/\w3.frozen? ⟨p,2,none⟩=false):=hideR fun u1 E w3 st' m hB hb3 ⟨c3,k3,n3,h3,hM3⟩ hE=>by
   have hbs:=But.set p 2 w3 (.int .i64 (en:Int))
   exact ⟨⟨⟨c3,k3,n3,h3.end_ (Nat.le_trans h3.le hE) hlen,hK _ _ _ _ _ _ hM3 hbs⟩,((But.t (But.trans hB (But.set p 2 u1 _))).trans hb3).trans (But.t hbs)⟩,h3.cell 1 _ rfl,h3.cell 2 _ rfl,h3.frz 2⟩
  clear cr ci hS hK H HM
  have HX:=hideR (fun u1 h1 hB=>HI.out u1 (min en (j+z)) h1 hB (by omega) (by omega))
  have HJJ:=hideR (fun u1 w3 st' m hB hb3 hx=>HJ.out u1 (min en (j+z)) w3 st' m hB hb3 hx (by omega))
  clear HI HJ
  rw [show ((min en (j+z):Nat):Int)=min (en:Int) ((j:Int)+(z:Int)) by omega] at HX HJJ
  generalize sec st (min en (j+z)) j=X at HX ⊢
  have fin:Hid (∀e w',SecR w0 p s M en w (bd X fun st' m=>if m=j+z then .ok (st',m) else .error 50) e w'->SecR w0 p s M en w (bd X fun st' m=>if m=j+z then .ok (st',m) else .error 50) e w'):=hideR fun _ _ h=>h
  go_enter Tryd.func15,Tryd.ntmps15
  go_wp2_with fail
  refine HC.out.mono ?_
  rintro e u ⟨⟨v,rfl,hv⟩,h1,h2⟩
  have hv:v=.int .i64 z:=hv
  subst hv
  have d1:=h1.cell 1 _ rfl
  have d2:=h1.cell 2 _ rfl
  have H1:=hideR h1
  have H2:=hideR h2
  clear h1 h2 HC hv
  go_wp2_with fail
  go_quiet (fail)
  have h1':=H1.out.on (below_drewN' u nq)
  have hBu:But p w (u.drewN nq):=H2.out.trans (But.of p (below_drewN' u nq))
  generalize u.drewN nq=u1 at *
  clear d1 d2 H1 H2
  have e1:=h1'.cell 1 _ rfl
  have e2:=h1'.cell 2 _ rfl
  have f2:=h1'.frz 2
  have H1:=hideR h1'
  have HB:=hideR hBu
  clear h1' hBu
  go_wp2_with fail
  refine (HX.out u1 H1.out HB.out).mono ?_
  intro e w3 hr
  cases X with
  | error zz =>
   obtain ⟨rfl,hb⟩:=hr
   exact ⟨rfl,rfl,hb⟩
  | ok vv =>
   obtain ⟨st',m⟩:=vv
   obtain ⟨rfl,hx,hb3⟩:=hr
   obtain ⟨hr3,c1,c2,f3⟩:=HJJ.out u1 w3 st' m HB.out hb3 hx
   have HR3:=hideR hr3
   clear hr3 hx hb3 HX HJJ H1 HB e1 e2 f2
   by_cases hm:m=j+z
   ·have dm:((m:Int) == (j:Int)+(z:Int))=true:=by simp;omega
    go_wp2_with fail
    refine (needY _ _).mono ?_
    rintro e w' ⟨rfl,rfl⟩
    go_wp2
    go_end0
    refine fin.out _ _ ?_
    rw [bd_ok,if_pos hm]
    exact ⟨rfl,HR3.out.1,HR3.out.2⟩
   ·have dm:((m:Int) == (j:Int)+(z:Int))=false:=by simp;omega
    have HBel:=hideR HR3.out.1
    go_wp2_with fail
    refine (needN _ _).mono ?_
    rintro e w' ⟨rfl,rfl⟩
    obtain ⟨c',k',n',h',_⟩:=HBel.out
    refine ⟨rfl,fin.out _ _ ?_⟩
    rw [bd_ok,if_neg hm]
    exact ⟨rfl,bel_unset h'.below h'.base⟩
end Go.Proofs.YtgbbmdknbflilaaDoor

namespace Go.Proofs.YtgbbmdknbflilaaDoor
open Go.RowKit Rep Dec
set_option linter.unusedVariables false
namespace Dec
def rsecs {σ:Type} (sec:Int->Sec σ) (ok:Int->Bool) (cd fl:σ->Nat) (s:ByteArray) (en:Nat):Nat->Int->σ->Nat->Option (R σ)
 | 0,_,_,_=>none
 | f+1,last,st,i=>if i<en then
   match nx s en i with
   | .error z=>some (.error z)
   | .ok (id,j)=>if 11<id then some (.error 50) else if id≠0/\¬ last<id then some (.error 50) else if ok id=true then
     match rsized (sec id) s st en j with
     | .error z=>some (.error z)
     | .ok (st',m)=>rsecs sec ok cd fl s en f (if id=0 then last else id) st' m
    else none
  else some (if cd st=fl st then .ok (st,i) else .error 50)
theorem rsized_gt {σ:Type} {sec:Sec σ} {s:ByteArray} {st st':σ} {en i m:Nat} (he:en<=s.size) (h:rsized sec s st en i=.ok (st',m)):i<m:=by
 unfold rsized at h
 obtain ⟨z,j,h1,h2⟩:=bd_in h
 obtain ⟨st2,m2,h3,h4⟩:=bd_in h2
 obtain ⟨hij,_⟩:=ru_ok he h1
 by_cases hm:m2=j+z.toNat
 ·rw [if_pos hm] at h4
  cases h4
  omega
 ·rw [if_neg hm] at h4;cases h4
def atOf (p:Nat) (w:World):Nat:=match w.cell? ⟨p,1,none⟩ with
 | some (.int _ i)=>i.toNat
 | _=>0
def eG (br p k f:Nat) (o:Option Addr) (cap:Nat):Nat->Value
 | 0=>.pointer (some ⟨p,0,none⟩)
 | 1=>.pointer (some ⟨p,0,none⟩)
 | 2=>.pointer (some ⟨p,13,none⟩)
 | 3=>.int .i64 (k:Int)
 | 4=>.pointer (some ⟨p,0,none⟩)
 | 5=>.pointer (some ⟨p,0,none⟩)
 | 6=>.pointer (some ⟨p,3,none⟩)
 | 7=>.pointer (some ⟨p,5,none⟩)
 | 8=>.slice o f cap
 | 9=>.int .i64 (f:Int)
 | _=>.bool false
structure LS {σ:Type} (w0:World) (p:Nat) (s:ByteArray) (M:σ->(Nat->Value)->Nat->Nat->World->Prop) (sec:Int->Sec σ) (ok:Int->Bool) (cd fl:σ->Nat) (en br:Nat) (W:World) (X:R σ) (last:Int) (st:σ) (c:Nat->Value) (k i n:Nat) (wr:World):Prop where
 rs:RS w0 p s c en k i n wr
 m:M st c k n wr
 but:ButT p W wr
 hr:wr.heap[br]?=some (.cells #[.pointer (some ⟨p,0,none⟩)] 43 (0,0))
 run:∃f,rsecs sec ok cd fl s en f last st i=some X
 last:0<=last/\last<=11
theorem heap_on {w w':World} (hb:Below w.heap.size w w') {b:Nat} {o:Obj} (h:w.heap[b]?=some o):w'.heap[b]?=some o:=by rw [hb.block b (Array.getElem?_eq_some_iff.1 h).1];exact h
theorem but_heap {p:Nat} {w w':World} (hb:But p w w') {b:Nat} (hp:b≠p) {o:Obj} (h:w.heap[b]?=some o):w'.heap[b]?=some o:=by rw [hb.block b (Array.getElem?_eq_some_iff.1 h).1 (by simpa using hp)];exact h
theorem butT_heap {p:Nat} {w w':World} (hb:ButT p w w') {b:Nat} (hp:b≠p) {cs:Array Value} {t:TypeId} {z:Nat × Nat} (ht:t≠67) (h:w.heap[b]?=some (.cells cs t z)):w'.heap[b]?=some (.cells cs t z):=by
 rw [hb.block b (Array.getElem?_eq_some_iff.1 h).1 hp (fun cur z' e=>by rw [h] at e;injection e with e;injection e with e1 e2 e3;exact ht e2)];exact h
theorem box_cell {w:World} {b:Nat} {v:Value} {t:TypeId} (h:w.heap[b]?=some (.cells #[v] t (0,0))):w.cell? ⟨b,0,none⟩=some v:=by unfold World.cell?;rw [h];rfl
theorem LS.cr {σ:Type} {w0:World} {p:Nat} {s:ByteArray} {M:σ->(Nat->Value)->Nat->Nat->World->Prop} {sec:Int->Sec σ} {ok:Int->Bool} {cd fl:σ->Nat} {en br:Nat} {W:World} {X:R σ} {last:Int} {st:σ} {c:Nat->Value} {k i n:Nat} {wr:World}
  (h:LS w0 p s M sec ok cd fl en br W X last st c k i n wr):wr.cell? ⟨br,0,none⟩=some (.pointer (some ⟨p,0,none⟩)):=box_cell h.hr
theorem LS.on {σ:Type} {w0:World} {p:Nat} {s:ByteArray} {M:σ->(Nat->Value)->Nat->Nat->World->Prop} {sec:Int->Sec σ} {ok:Int->Bool} {cd fl:σ->Nat} {en br:Nat} {W:World} {X:R σ} {last:Int} {st:σ} {c:Nat->Value} {k i n:Nat} {wr wr':World} (hK:Keeps5 p M)
  (h:LS w0 p s M sec ok cd fl en br W X last st c k i n wr) (hb:Below wr.heap.size wr wr'):LS w0 p s M sec ok cd fl en br W X last st c k i n wr' :=
 ⟨h.rs.on hb,hK _ _ _ _ _ _ h.m (But.of p hb),h.but.trans (But.t (But.of p hb)),heap_on hb h.hr,h.run,h.last⟩
section
variable {σ:Type} {sec:Int->Sec σ} {ok:Int->Bool} {cd fl:σ->Nat} {s:ByteArray} {en f:Nat} {last:Int} {st:σ} {i:Nat} {X:R σ}
theorem rsecs_end (hi:¬ i<en) (h:rsecs sec ok cd fl s en f last st i=some X):X=if cd st=fl st then .ok (st,i) else .error 50:=by
 cases f with
 | zero=>cases h
 | succ f=>simp only [rsecs,if_neg hi,Option.some.injEq] at h;exact h.symm
theorem rsecs_step (hi:i<en) (h:rsecs sec ok cd fl s en f last st i=some X):(11<Leb.bt s i->X=.error 50)/\(¬ 11<Leb.bt s i->Leb.bt s i≠0/\¬ last<Leb.bt s i->X=.error 50) /\
  (¬ 11<Leb.bt s i->¬ (Leb.bt s i≠0/\¬ last<Leb.bt s i)->ok (Leb.bt s i)=true/\(∀z,rsized (sec (Leb.bt s i)) s st en (i+1)=.error z->X=.error z) /\
   ∀st' m,rsized (sec (Leb.bt s i)) s st en (i+1)=.ok (st',m)->∃f',rsecs sec ok cd fl s en f' (if Leb.bt s i=0 then last else Leb.bt s i) st' m=some X):=by
 cases f with
 | zero=>cases h
 | succ f =>
  have hn:nx s en i=.ok (Leb.bt s i,i+1):=by unfold nx;rw [if_pos hi]
  simp only [rsecs,if_pos hi,hn] at h
  refine ⟨fun h1=>?_,fun h1 h2=>?_,fun h1 h2=>?_⟩
  ·rw [if_pos h1] at h;exact (Option.some.inj h).symm
  ·rw [if_neg h1,if_pos h2] at h;exact (Option.some.inj h).symm
  ·rw [if_neg h1,if_neg h2] at h
   by_cases h3:ok (Leb.bt s i)=true
   ·rw [if_pos h3] at h
    refine ⟨h3,fun z hz=>?_,fun st' m hm=>?_⟩
    ·rw [hz] at h;exact (Option.some.inj h).symm
    ·rw [hm] at h;exact ⟨f,h⟩
   ·rw [if_neg h3] at h;cases h
end
theorem RS.atOf_ {w0 w:World} {p:Nat} {s:ByteArray} {c:Nat->Value} {en k i n:Nat} (h:RS w0 p s c en k i n w):atOf p w=i:=by
 unfold atOf;rw [h.cell 1 _ rfl];rfl
end Dec
set_option maxRecDepth 100000 in
set_option maxHeartbeats 4000000 in
theorem dSections {σ:Type} {w0:World} {p:Nat} {s:ByteArray} {M:σ->(Nat->Value)->Nat->Nat->World->Prop} (hK:Keeps5 p M) {sec:Int->Sec σ} {ok:Int->Bool} {cd fl:σ->Nat} (hS:∀id,ok id=true->SecSays w0 p s M (sec id) id)
  (hF:∀st c k n w,M st c k n w->k=cd st/\∃o cap,c 2=.slice o (fl st) cap)
  (st:σ) (c:Nat->Value) (en k i n f:Nat) (w:World) (h:RS w0 p s c en k i n w) (hM:M st c k n w) (X:R σ) (hX:rsecs sec ok cd fl s en f 0 st i=some X) :
  Calls Tryd.prog 11 #[.pointer (some ⟨p,0,none⟩)] w (SecR w0 p s M en w X):=by
 have hB0:Below w.heap.size w (w.alloc (.cells #[.pointer (some ⟨p,0,none⟩)] 43)):=(Below.refl _ _).alloc (Nat.le_refl _) _
 have hlt:=h.lt
 have hcr:(w.alloc (.cells #[.pointer (some ⟨p,0,none⟩)] 43)).cell? ⟨w.heap.size,0,none⟩=some (.pointer (some ⟨p,0,none⟩)):=by simp
 have hbut:But p w (w.alloc (.cells #[.pointer (some ⟨p,0,none⟩)] 43)):=But.of p hB0
 have hhr:(w.alloc (.cells #[.pointer (some ⟨p,0,none⟩)] 43)).heap[w.heap.size]?=some (.cells #[.pointer (some ⟨p,0,none⟩)] 43 (0,0)):=heap_alloc_new' _ _ rfl
 have HL0:Hid (LS w0 p s M sec ok cd fl en w.heap.size (w.alloc (.cells #[.pointer (some ⟨p,0,none⟩)] 43)) X 0 st c k i n (w.alloc (.cells #[.pointer (some ⟨p,0,none⟩)] 43))):=hideR ⟨h.on hB0,hK _ _ _ _ _ _ hM hbut,But.t (But.refl _ _),hhr,⟨f,hX⟩,by omega⟩
 have HBUT:=hideR hbut
 have hbrp:w.heap.size≠p:=by omega
 have hen:=h.len
 have hs0:=h.big
 have fin:Hid (∀e w',SecR w0 p s M en w X e w'->SecR w0 p s M en w X e w'):=hideR fun _ _ h=>h
 clear h hM hX hB0 hcr hbut hlt hhr
 go_enter Tryd.func11,Tryd.ntmps11
 go_wp2_with fail
 generalize w.alloc (.cells #[.pointer (some ⟨p,0,none⟩)] 43)=W at *
 go_loopw [2] (fun la wr=>∃(last:Int) (st:σ) (c:Nat->Value) (k i n:Nat),la=.int .i64 last/\Hid (LS w0 p s M sec ok cd fl en w.heap.size W X last st c k i n wr)) (fun _ wr=>en-atOf p wr)
 case atStart=>exact ⟨0,st,c,k,i,n,rfl,HL0⟩
 case round =>
  clear HL0
  obtain ⟨last,st,c,k,i,n,rfl,HL⟩:=hrel
  have hat:atOf p wr=i:=HL.out.rs.atOf_
  have HAT:=hideR hat
  clear hat
  have c1:=HL.out.rs.cell 1 _ rfl
  have c2:=HL.out.rs.cell 2 _ rfl
  have cb:=HL.out.cr
  have hla:=HL.out.last
  go_wp2_with fail
  go_quiet (fail)
  have HL1:=hideR (HL.out.on hK (below_drewN' wr nq))
  generalize wr.drewN nq=u1 at *
  clear c1 c2 cb HL
  have cb:=HL1.out.cr
  by_cases hi:i<en
  ·have dl:decide ((i:Int)<(en:Int))=true:=decide_eq_true (by omega)
   have hnx:nx s en i=.ok (Leb.bt s i,i+1):=by unfold nx;rw [if_pos hi]
   have HN:=hideR (dNext w0 p s c en k i n u1 HL1.out.rs)
   rw [hnx] at HN
   obtain ⟨f',hrun⟩:=HL1.out.run
   have HST:=hideR (rsecs_step hi hrun)
   have hbt:=Leb.bt_bd s i
   clear hrun hnx
   obtain ⟨id,hid⟩:∃id,id=Leb.bt s i:=⟨_,rfl⟩
   rw [<- hid] at HN HST hbt
   clear hid
   go_wp2_with fail
   refine HN.out.mono ?_
   rintro e u ⟨⟨v,rfl,hv⟩,h1,h2⟩
   have hv:v=.int .i64 id:=hv
   subst hv
   clear hv
   have HX:=hideR (And.intro h1 h2)
   clear h1 h2 HN
   have hB2:Below u.heap.size u (u.alloc (.cells #[.int .i64 id] 3)):=(Below.refl _ _).alloc (Nat.le_refl _) _
   have hbi:(u.alloc (.cells #[.int .i64 id] 3)).cell? ⟨u.heap.size,0,none⟩=some (.int .i64 id):=by simp
   have hb2:But p u1 (u.alloc (.cells #[.int .i64 id] 3)):=HX.out.2.trans (But.of p hB2)
   have hup:u.heap.size≠p:=by have:=HX.out.1.lt;omega
   have HR2:=hideR (And.intro (HX.out.1.on hB2) (And.intro (hK _ _ _ _ _ _ HL1.out.m hb2) (And.intro (but_cell hb2 hbrp HL1.out.cr) (And.intro hbi (And.intro hup (And.intro (HL1.out.but.trans (But.t hb2)) (but_heap hb2 hbrp HL1.out.hr)))))))
   have hci:=hbi
   by_cases h11:11<id
   ·have d11:decide (id<=11)=false:=decide_eq_false (by omega)
    go_wp2_with fail
    refine (needN _ _).mono ?_
    rintro e w' ⟨rfl,rfl⟩
    refine ⟨rfl,fin.out _ _ ?_⟩
    rw [HST.out.1 h11]
    exact ⟨rfl,HR2.out.1.below⟩
   ·have d11:decide (id<=11)=true:=decide_eq_true (by omega)
    have h11':id<=11:=by omega
    clear hB2 hb2 hbi
    go_wp2_with fail
    generalize u.alloc (.cells #[.int .i64 id] 3)=u2 at *
    have cb2:=HR2.out.2.2.1
    refine (needY _ _).mono ?_
    rintro e w' ⟨rfl,rfl⟩
    by_cases h0:id=0
    ·have q0:(id != 0)=false:=by simp [h0]
     have h3:=HST.out.2.2 h11' (by omega)
     have hok:=h3.1
     have HZ:=hideR (dSized hK (hS id hok) st c en k (i+1) n w.heap.size u.heap.size _ HR2.out.1 HR2.out.2.1 HR2.out.2.2.1 HR2.out.2.2.2.1 hbrp HR2.out.2.2.2.2.1)
     generalize hrz:rsized (sec id) s st en (i+1)=Y at HZ
     go_wp2_with fail
     refine HZ.out.mono ?_
     intro e w3 hr
     cases Y with
     | error z =>
      obtain ⟨rfl,hb⟩:=hr
      have hXe:=h3.2.1 z hrz
      refine ⟨rfl,fin.out _ _ ?_⟩
      rw [hXe]
      exact ⟨rfl,hb⟩
     | ok vv =>
      obtain ⟨st',m⟩:=vv
      obtain ⟨rfl,⟨c',k',n',hr3,hm3⟩,hb3⟩:=hr
      have hgt:=rsized_gt hen hrz
      have hmen:=hr3.le
      have HN3:Hid (LS w0 p s M sec ok cd fl en w.heap.size W X last st' c' k' m n' w3):=hideR ⟨hr3,hm3,HR2.out.2.2.2.2.2.1.trans hb3,butT_heap hb3 hbrp (by decide) HR2.out.2.2.2.2.2.2,by have:=h3.2.2 st' m hrz;rwa [if_pos h0] at this,by omega⟩
      have HA3:=hideR hr3.atOf_
      clear hr3 hm3 hb3 HZ
      go_wp2
      go_roundw
      case rel=>exact ⟨_,st',c',k',m,n',rfl,HN3⟩
      case measure=>rw [HA3.out,HAT.out];omega
    ·have q0:(id != 0)=true:=by simp [h0]
     by_cases hl:last<id
     ·have dl2:decide (id > last)=true:=decide_eq_true (by omega)
      have h3:=HST.out.2.2 h11' (by omega)
      have hok:=h3.1
      go_wp2_with fail
      refine (needY _ _).mono ?_
      rintro e w' ⟨rfl,rfl⟩
      have HZ:=hideR (dSized hK (hS id hok) st c en k (i+1) n w.heap.size u.heap.size _ HR2.out.1 HR2.out.2.1 HR2.out.2.2.1 HR2.out.2.2.2.1 hbrp HR2.out.2.2.2.2.1)
      generalize hrz:rsized (sec id) s st en (i+1)=Y at HZ
      go_wp2_with fail
      refine HZ.out.mono ?_
      intro e w3 hr
      cases Y with
      | error z =>
       obtain ⟨rfl,hb⟩:=hr
       have hXe:=h3.2.1 z hrz
       refine ⟨rfl,fin.out _ _ ?_⟩
       rw [hXe]
       exact ⟨rfl,hb⟩
      | ok vv =>
       obtain ⟨st',m⟩:=vv
       obtain ⟨rfl,⟨c',k',n',hr3,hm3⟩,hb3⟩:=hr
       have hgt:=rsized_gt hen hrz
       have hmen:=hr3.le
       have HN3:Hid (LS w0 p s M sec ok cd fl en w.heap.size W X id st' c' k' m n' w3):=hideR ⟨hr3,hm3,HR2.out.2.2.2.2.2.1.trans hb3,butT_heap hb3 hbrp (by decide) HR2.out.2.2.2.2.2.2,by have:=h3.2.2 st' m hrz;rwa [if_neg h0] at this,by omega⟩
       have HA3:=hideR hr3.atOf_
       clear hr3 hm3 hb3 HZ
       go_wp2
       go_roundw
       case rel=>exact ⟨_,st',c',k',m,n',rfl,HN3⟩
       case measure=>rw [HA3.out,HAT.out];omega
     ·have dl2:decide (id > last)=false:=decide_eq_false (by omega)
      go_wp2_with fail
      refine (needN _ _).mono ?_
      rintro e w' ⟨rfl,rfl⟩
      refine ⟨rfl,fin.out _ _ ?_⟩
      rw [HST.out.2.1 h11' (by omega)]
      exact ⟨rfl,HR2.out.1.below⟩
  ·have dl:decide ((i:Int)<(en:Int))=false:=decide_eq_false (by omega)
   obtain ⟨f',hrun⟩:=HL1.out.run
   have hXe:=rsecs_end hi hrun
   obtain ⟨hk,o2,cap2,hc2⟩:=hF _ _ _ _ _ HL1.out.m
   have c13:=HL1.out.rs.cell 13 _ rfl
   have c5:u1.cell? ⟨p,5,none⟩=some (c 2):=HL1.out.rs.cell 5 _ rfl
   rw [hc2] at c5
   have HXE:=hideR hXe
   have HF:=hideR (And.intro HL1.out.rs (And.intro HL1.out.m HL1.out.but))
   clear hrun hXe hc2
   subst hk
   by_cases hcf:cd st=fl st
   ·have dq:((cd st:Int) == (fl st:Int))=true:=by simp [hcf]
    go_wp2_with fail
    go_quiet (first|(go_at_call 9;exact Calls.quiet_of_same (needY _ _)))
    go_wp2
    go_end0
    refine fin.out _ _ ?_
    rw [HXE.out,if_pos hcf]
    have hb:=below_drewN' u1 nq
    exact ⟨rfl,⟨_,_,_,HF.out.1.on hb,hK _ _ _ _ _ _ HF.out.2.1 (But.of p hb)⟩,(But.t HBUT.out).trans (HF.out.2.2.trans (But.t (But.of p hb)))⟩
   ·have dq:((cd st:Int) == (fl st:Int))=false:=by simp;omega
    go_wp2_with fail
    refine Reg.wp_region_two 11 (fun i=>28+i) (fun j v _=>v=eG w.heap.size p (cd st) (fl st) o2 cap2 j) (by kernel_rfl) (by kernel_rfl) (fun i j h1 h2 h=>by have h':28+i=28+j:=h;omega) (Reg.dst_ok (size:=40) (by kernel_rfl)) (fun i v w w' _ h _=>h) ?hstep ?htail
    case hstep =>
     intro j o a u hj ho hF2 hB hd
     have f1:a.tmps[1]?.getD undef=.pointer (some ⟨w.heap.size,0,none⟩):=Reg.ev_get (hF2.eval 1 (fun i hi=>by show 28+i≠1;omega))
     have db:=cell_on hB cb
     have d13:=cell_on hB c13
     have d5:=cell_on hB c5
     have hcase:j=0\/j=1\/j=2\/j=3\/j=4\/j=5\/j=6\/j=7\/j=8\/j=9\/j=10:=by omega
     clear hj cb c13 c5
     rcases hcase with rfl|rfl|rfl|rfl|rfl|rfl|rfl|rfl|rfl|rfl|rfl
     all_goals (simp only [List.getElem?_toArray,List.getElem?_cons_succ,List.getElem?_cons_zero,Option.some.injEq] at ho;subst ho;refine Reg.step_k fun K hK=>?_)
     ·go_simp
      exact hK _ _ ⟨_,rfl,Below.refl _ _,rfl⟩
     ·have q:a.tmps[28]?.getD undef=.pointer (some ⟨p,0,none⟩):=Reg.ev_get (hd 0 (by decide))
      go_simp
      exact hK _ _ ⟨_,rfl,Below.refl _ _,rfl⟩
     ·have q:a.tmps[29]?.getD undef=.pointer (some ⟨p,0,none⟩):=Reg.ev_get (hd 1 (by decide))
      go_simp
      exact hK _ _ ⟨_,rfl,Below.refl _ _,rfl⟩
     ·have q:a.tmps[30]?.getD undef=.pointer (some ⟨p,13,none⟩):=Reg.ev_get (hd 2 (by decide))
      go_simp
      exact hK _ _ ⟨_,rfl,Below.refl _ _,rfl⟩
     ·go_simp
      exact hK _ _ ⟨_,rfl,Below.refl _ _,rfl⟩
     ·have q:a.tmps[32]?.getD undef=.pointer (some ⟨p,0,none⟩):=Reg.ev_get (hd 4 (by decide))
      go_simp
      exact hK _ _ ⟨_,rfl,Below.refl _ _,rfl⟩
     ·have q:a.tmps[33]?.getD undef=.pointer (some ⟨p,0,none⟩):=Reg.ev_get (hd 5 (by decide))
      go_simp
      exact hK _ _ ⟨_,rfl,Below.refl _ _,rfl⟩
     ·have q:a.tmps[34]?.getD undef=.pointer (some ⟨p,3,none⟩):=Reg.ev_get (hd 6 (by decide))
      go_simp
      exact hK _ _ ⟨_,rfl,Below.refl _ _,rfl⟩
     ·have q:a.tmps[35]?.getD undef=.pointer (some ⟨p,5,none⟩):=Reg.ev_get (hd 7 (by decide))
      go_simp
      exact hK _ _ ⟨_,rfl,Below.refl _ _,rfl⟩
     ·have q:a.tmps[36]?.getD undef=.slice o2 (fl st) cap2:=Reg.ev_get (hd 8 (by decide))
      go_simp
      exact hK _ _ ⟨_,rfl,Below.refl _ _,rfl⟩
     ·have q:a.tmps[31]?.getD undef=.int .i64 (cd st:Int):=Reg.ev_get (hd 3 (by decide))
      have q2:a.tmps[37]?.getD undef=.int .i64 (fl st:Int):=Reg.ev_get (hd 9 (by decide))
      go_simp
      exact hK _ _ ⟨_,rfl,Below.refl _ _,rfl⟩
    case htail =>
     intro a u hF2 hB hG
     have q:a.tmps[38]?.getD undef=.bool false:=Reg.ev_get (hG 10 (by decide))
     simp only [List.drop_succ_cons,List.drop_zero]
     refine wpList_plain rfl fun K hK=>?_
     go_simp
     refine (needN _ _).mono ?_
     rintro e u2 ⟨rfl,rfl⟩
     refine ⟨hF2.defers,fin.out _ _ ?_⟩
     rw [HXE.out,if_neg hcf]
     exact ⟨rfl,HF.out.1.below.trans (hB.mono HF.out.1.below.size)⟩
end Go.Proofs.YtgbbmdknbflilaaDoor

