/- Texts that the claim needs. -/
import Derived.Test.YtegboefdolfdgaaGreatDoorQDM28
import Derived.Test.YtegboefdolfdgaaGreatDoorQDM29
import Derived.Test.YtegboefdolfdgaaGreatDoorQDM5
namespace Go.Proofs.YtegboefdolfdgaaGreatDoor
open Go.RowKit aA ai
set_option linter.unusedVariables false
namespace ai
structure Sg where
 m:Mod 81
 codes:Nat
 cnt:Nat
def Sm (p g:Nat) (w:World) (k:Nat):Prop:=p<k/\k<w.heap.size/\k≠g
structure MG (p g:Nat) (m:Mod 81) (c:Nat->Value) (w:World):Prop where
 types:aI 2 uP w (Sm p g w) (c 0) m.types
 imports:aI 3 uR w (Sm p g w) (c 1) m.imports
 tables:aI 3 om w (Sm p g w) (c 3) m.tables
 dU:aI 3 om w (Sm p g w) (c 4) m.dU
 globals:aI 9 (uW 81) w (Sm p g w) (c 5) m.globals
 exports:aI 3 uU w (Sm p g w) (c 6) m.exports
 start:aI 1 uL w (Sm p g w) (c 7) m.start
 elems:aI 8 (uY 81) w (Sm p g w) (c 8) m.elems
 dV:aI 8 (ve 81) w (Sm p g w) (c 9) m.dV
 funcs:∃(o:Option Addr) (ob cap:Nat) (ty:Nat->Int) (a b:Nat->Value),c 2=.slice o m.funcs.length cap/\(0<m.funcs.length->o=some ⟨g,ob,none⟩/\FB g ob m.funcs.length ty a b w/\p<g)/\∀j f,m.funcs[j]?=some f->ty j=f.type/\aH w (Sm p g w) (a j) f.locals/\ah w (Sm p g w) 81 (b j) f.body
def MM (p:Nat) (st:Sg) (c:Nat->Value) (k n:Nat) (w:World):Prop:=k=st.codes/\n=st.cnt/\n<=65536/\∃g,MG p g st.m c w
def Kp (p:Nat) (w w':World):Prop:=(∀b,p<b->b<w.heap.size->w'.heap[b]?=w.heap[b]?)/\w.heap.size<=w'.heap.size
theorem Kp.sm {p g:Nat} {w w':World} (h:Kp p w w'):∀k,Sm p g w k->Sm p g w' k/\w'.heap[k]?=w.heap[k]?:=fun k hk=>⟨⟨hk.1,Nat.lt_of_lt_of_le hk.2.1 h.2,hk.2.2⟩,h.1 k hk.1 hk.2.1⟩
theorem Kp.but {p:Nat} {w w':World} (h:But p w w'):Kp p w w':=⟨fun b hb hl=>h.block b hl (by simp;omega),h.size⟩
theorem MG.keep {p g:Nat} {m:Mod 81} {c:Nat->Value} {w w':World} (h:MG p g m c w) (hk:Kp p w w'):MG p g m c w' where
 types:=aI.keep uO hk.sm h.types
 imports:=aI.keep uQ hk.sm h.imports
 tables:=aI.keep mY hk.sm h.tables
 dU:=aI.keep mY hk.sm h.dU
 globals:=aI.keep (uV 81) hk.sm h.globals
 exports:=aI.keep uT hk.sm h.exports
 start:=aI.keep tj hk.sm h.start
 elems:=aI.keep (uX 81) hk.sm h.elems
 dV:=aI.keep (uZ 81) hk.sm h.dV
 funcs:=by
  obtain ⟨o,ob,cap,ty,a,b,h1,h2,h3⟩:=h.funcs;exact ⟨o,ob,cap,ty,a,b,h1,fun h0=>⟨(h2 h0).1,(h2 h0).2.1.keep (hk.1 g (h2 h0).2.2 (h2 h0).2.1.lt),(h2 h0).2.2⟩,fun j f hj=>⟨(h3 j f hj).1,(h3 j f hj).2.1.keep hk.sm,ah.keep hk.sm _ _ _ (h3 j f hj).2.2⟩⟩
theorem K9 (p:Nat):yI p (MM p):=fun st c k n w w' ⟨h1,h2,h3,g,h4⟩ hb hs=>⟨h1,h2,h3,g,h4.keep ⟨hb,hs⟩⟩
theorem pq {p g:Nat} {w w':World} (hp:p<w.heap.size) (hg:g<w.heap.size):∀k,Since w.heap.size w' none k->Sm p g w' k/\w'.heap[k]?=w'.heap[k]?:=fun k hk=>⟨⟨by have:=hk.1;omega,hk.2.1,by have:=hk.1;omega⟩,rfl⟩
theorem MG.lt {p g:Nat} {m:Mod 81} {c:Nat->Value} {w:World} (h:MG p g m c w) (hp:p<w.heap.size):∃g',g'<w.heap.size/\MG p g' m c w:=by
 by_cases hg:g<w.heap.size
 ·exact ⟨g,hg,h⟩
 ·have hs:∀k,Sm p g w k->Sm p p w k/\w.heap[k]?=w.heap[k]?:=fun k hk=>⟨⟨hk.1,hk.2.1,by have:=hk.1;omega⟩,rfl⟩;refine ⟨p,hp,⟨aI.keep uO hs h.types,aI.keep uQ hs h.imports,aI.keep mY hs h.tables,aI.keep mY hs h.dU,aI.keep (uV 81) hs h.globals,aI.keep uT hs h.exports,aI.keep tj hs h.start,aI.keep (uX 81) hs h.elems,aI.keep (uZ 81) hs h.dV,?_⟩⟩;obtain ⟨o,ob,cap,ty,a,b,h1,h2,h3⟩:=h.funcs;refine ⟨o,ob,cap,ty,a,b,h1,fun h0=>absurd (h2 h0).2.1.lt hg,fun j f hj=>?_⟩;have hj0:j<m.funcs.length:=(List.getElem?_eq_some_iff.1 hj).1;exact absurd (h2 (by omega)).2.1.lt hg
theorem MG.Hq {p g:Nat} {m:Mod 81} {c:Nat->Value} {w w':World} (h:MG p g m c w) (hk:Kp p w w') (hp:p<w.heap.size) (hg:g<w.heap.size) {v:Value} {l:List _} (hv:aI 2 uP w' (Since w.heap.size w' none) v l):MG p g { m with types:=l } (upd c 0 v) w' :=
 { h.keep hk with types:=aI.keep uO (pq hp hg) hv }
theorem MG.Hr {p g:Nat} {m:Mod 81} {c:Nat->Value} {w w':World} (h:MG p g m c w) (hk:Kp p w w') (hp:p<w.heap.size) (hg:g<w.heap.size) {v:Value} {l:List _} (hv:aI 3 uR w' (Since w.heap.size w' none) v l):MG p g { m with imports:=l } (upd c 1 v) w' :=
 { h.keep hk with imports:=aI.keep uQ (pq hp hg) hv }
theorem MG.Hs {p g:Nat} {m:Mod 81} {c:Nat->Value} {w w':World} (h:MG p g m c w) (hk:Kp p w w') (hp:p<w.heap.size) (hg:g<w.heap.size) {v:Value} {l:List _} (hv:aI 3 om w' (Since w.heap.size w' none) v l):MG p g { m with tables:=l } (upd c 3 v) w' :=
 { h.keep hk with tables:=aI.keep mY (pq hp hg) hv }
theorem MG.Ht {p g:Nat} {m:Mod 81} {c:Nat->Value} {w w':World} (h:MG p g m c w) (hk:Kp p w w') (hp:p<w.heap.size) (hg:g<w.heap.size) {v:Value} {l:List _} (hv:aI 3 om w' (Since w.heap.size w' none) v l):MG p g { m with dU:=l } (upd c 4 v) w' :=
 { h.keep hk with dU:=aI.keep mY (pq hp hg) hv }
theorem MG.Hu {p g:Nat} {m:Mod 81} {c:Nat->Value} {w w':World} (h:MG p g m c w) (hk:Kp p w w') (hp:p<w.heap.size) (hg:g<w.heap.size) {v:Value} {l:List _} (hv:aI 9 (uW 81) w' (Since w.heap.size w' none) v l):MG p g { m with globals:=l } (upd c 5 v) w' :=
 { h.keep hk with globals:=aI.keep (uV 81) (pq hp hg) hv }
theorem MG.Hv {p g:Nat} {m:Mod 81} {c:Nat->Value} {w w':World} (h:MG p g m c w) (hk:Kp p w w') (hp:p<w.heap.size) (hg:g<w.heap.size) {v:Value} {l:List _} (hv:aI 3 uU w' (Since w.heap.size w' none) v l):MG p g { m with exports:=l } (upd c 6 v) w' :=
 { h.keep hk with exports:=aI.keep uT (pq hp hg) hv }
theorem MG.H9 {p g:Nat} {m:Mod 81} {c:Nat->Value} {w w':World} (h:MG p g m c w) (hk:Kp p w w') (hp:p<w.heap.size) (hg:g<w.heap.size) {v:Value} {l:List _} (hv:aI 1 uL w' (Since w.heap.size w' none) v l):MG p g { m with start:=l } (upd c 7 v) w' :=
 { h.keep hk with start:=aI.keep tj (pq hp hg) hv }
theorem MG.Hw {p g:Nat} {m:Mod 81} {c:Nat->Value} {w w':World} (h:MG p g m c w) (hk:Kp p w w') (hp:p<w.heap.size) (hg:g<w.heap.size) {v:Value} {l:List _} (hv:aI 8 (uY 81) w' (Since w.heap.size w' none) v l):MG p g { m with elems:=l } (upd c 8 v) w' :=
 { h.keep hk with elems:=aI.keep (uX 81) (pq hp hg) hv }
theorem MG.Hy {p g:Nat} {m:Mod 81} {c:Nat->Value} {w w':World} (h:MG p g m c w) (hk:Kp p w w') (hp:p<w.heap.size) (hg:g<w.heap.size) {v:Value} {l:List _} (hv:aI 8 (ve 81) w' (Since w.heap.size w' none) v l):MG p g { m with dV:=l } (upd c 9 v) w' :=
 { h.keep hk with dV:=aI.keep (uZ 81) (pq hp hg) hv }
theorem Vf {w:World} {S:Nat->Prop} {v:Value} {l:List Int} (h:aI 3 uS w S v l):(l = []/\∃o k,v=.slice o 0 k)\/∃g ob k,v=.slice (some ⟨g,ob,none⟩) l.length k/\S g/\FB g ob l.length (fun j=>l.getD j 0) (fun _=>.slice none 0 0) (fun _=>.slice none 0 0) w:=by
 rcases h.2 with ⟨rfl,o,k,rfl⟩|⟨g,ob,k,rfl,hx⟩
 ·exact .inl ⟨rfl,o,k,rfl⟩
 ·cases l with
  | nil=>exact .inl ⟨rfl,_,_,rfl⟩
  | cons x0 r =>
   obtain ⟨hS,⟨cur,Ld⟩,_⟩:=hx 0 x0 rfl;refine .inr ⟨g,ob,k,rfl,hS,cur,Ld,fun j hj=>?_⟩;obtain ⟨_,_,h1,h2,h3⟩:=hx j ((x0 :: r)[j]'hj) (List.getElem?_eq_getElem hj);unfold World.cell? at h1 h2 h3;rw [Ld] at h1 h2 h3;have e:(x0 :: r).getD j 0=(x0 :: r)[j]:=by rw [List.getD_eq_getElem?_getD,List.getElem?_eq_getElem hj];rfl
   exact ⟨by show _=some (Value.int .i64 ((x0 :: r).getD j 0));rw [e];exact h1,h2,h3⟩
theorem Vg (w:World) (S:Nat->Prop):aH w S (.slice none 0 0) []:=⟨by simp,.inl ⟨rfl,none,0,rfl⟩⟩
theorem Vh (w:World) (S:Nat->Prop):∀d,ah w S d (.slice none 0 0) (none_ d)
 | 0=>⟨none,0,rfl⟩
 | d+1=>⟨by simp [none_],.inl ⟨rfl,none,0,rfl⟩⟩
def uI (t:Int):uF 81:=⟨t,[],none_ 81⟩
theorem MG.Hz {p g:Nat} {m:Mod 81} {c:Nat->Value} {w w':World} (h:MG p g m c w) (hk:Kp p w w') (hp:p<w.heap.size) {v:Value} {l:List Int} (hv:aI 3 uS w' (Since w.heap.size w' none) v l):∃g',MG p g' { m with funcs:=l.map uI } (upd c 2 v) w':=by
 have main:∀g',(∀k,Sm p g w' k->k<w.heap.size->k≠g')->(∃o ob cap,v=.slice o l.length cap/\(0<l.length->o=some ⟨g',ob,none⟩/\FB g' ob l.length (fun j=>l.getD j 0) (fun _=>.slice none 0 0) (fun _=>.slice none 0 0) w'/\p<g'))->MG p g' { m with funcs:=l.map uI } (upd c 2 v) w':=by
  intro g' hg' ⟨o,ob,cap,hv1,hv2⟩
  have hs:∀k,Sm p g w k->Sm p g' w' k/\w'.heap[k]?=w.heap[k]?:=fun k hk'=>by
   obtain ⟨a1,a2⟩:=hk.sm k hk';exact ⟨⟨a1.1,a1.2.1,hg' k a1 hk'.2.1⟩,a2⟩
  refine ⟨aI.keep uO hs h.types,aI.keep uQ hs h.imports,aI.keep mY hs h.tables,aI.keep mY hs h.dU,aI.keep (uV 81) hs h.globals,aI.keep uT hs h.exports,aI.keep tj hs h.start,aI.keep (uX 81) hs h.elems,aI.keep (uZ 81) hs h.dV,?_⟩;refine ⟨o,ob,cap,fun j=>l.getD j 0,fun _=>.slice none 0 0,fun _=>.slice none 0 0,by rw [List.length_map];exact hv1,by rw [List.length_map];exact hv2,fun j f hj=>?_⟩;have hj:(l.map uI)[j]?=some f:=hj;rw [List.getElem?_map] at hj;obtain ⟨t,ht,rfl⟩:=Option.map_eq_some_iff.1 hj;exact ⟨by show l.getD j 0=t;rw [List.getD_eq_getElem?_getD,ht];rfl,Vg _ _,Vh _ _ 81⟩
 rcases Vf hv with ⟨rfl,o,k,rfl⟩|⟨g',ob,k,rfl,hS,wz⟩
 ·exact ⟨g,main g (fun k hk _=>hk.2.2) ⟨o,0,k,rfl,fun h0=>absurd h0 (by simp)⟩⟩
 ·exact ⟨g',main g' (fun k hk hl=>by have:=hS.1;omega) ⟨_,ob,k,rfl,fun _=>⟨rfl,wz,by have:=hS.1;omega⟩⟩⟩
def nY (f:uF 81) (x:List Int × IL 81):uF 81:=⟨f.type,x.1,x.2⟩
def bB (s:ByteArray) (id:Int):mV Sg:=fun st en i=>match id.toNat with
 | 0=>bd (nu s en i) fun _ j=>.ok (st,j)
 | 1=>bd (aV (ku s en) s en i) fun l j=>.ok ({ st with m:={ st.m with types:=l } },j)
 | 2=>bd (aV (jv s en) s en i) fun l j=>.ok ({ st with m:={ st.m with imports:=l } },j)
 | 4=>bd (aV (lX s en) s en i) fun l j=>.ok ({ st with m:={ st.m with tables:=l } },j)
 | 5=>bd (aV (iz s en) s en i) fun l j=>.ok ({ st with m:={ st.m with dU:=l } },j)
 | 6=>bd (aV (jR 81 s en) s en i) fun l j=>.ok ({ st with m:={ st.m with globals:=l } },j)
 | 7=>bd (aV (jw s en) s en i) fun l j=>.ok ({ st with m:={ st.m with exports:=l } },j)
 | 8=>bd (qX s en i) fun l j=>.ok ({ st with m:={ st.m with start:=l } },j)
 | 9=>bd (aV (lj 81 s en) s en i) fun l j=>.ok ({ st with m:={ st.m with elems:=l } },j)
 | 11=>bd (aV (lq 81 s en) s en i) fun l j=>.ok ({ st with m:={ st.m with dV:=l } },j)
 | 3=>bd (aV (lW s en) s en i) fun l j=>.ok ({ st with m:={ st.m with funcs:=l.map uI } },j)
 | 10=>match gQ s en st.m.funcs.length i st.cnt with
  | .ok (fs,j,n)=>.ok (⟨{ st.m with funcs:=List.zipWith nY st.m.funcs fs },st.m.funcs.length,n⟩,j)
  | .error z=>.error z
 | _=>.error 50
end ai
theorem U0 {w0:World} {p:Nat} {s:ByteArray} (hU:∀u,Below w0.heap.size w0 u->iW u):kr w0 p s (MM p) (bB s 0) 0:=by
 intro st c en k i n w hr hM;refine (Jw w0 p s c en k i n w hr hU).mono ?_;intro e w' hx;show iO w0 p s (MM p) en w (bd (nu s en i) fun _ j=>.ok (st,j)) e w';cases hR:nu s en i with
 | error z=>rw [hR] at hx;exact hx
 | ok v =>
  obtain ⟨u,j⟩:=v;rw [hR] at hx;obtain ⟨⟨v,rfl,hv⟩,h1,h2⟩:=hx;have hv:v=.tuple #[]:=hv;subst hv;have hk:=Kp.but h2;exact ⟨rfl,⟨c,k,n,h1,K9 p _ _ _ _ _ _ hM hk.1 hk.2⟩,But.t h2⟩
theorem U1 {w0:World} {p:Nat} {s:ByteArray}:kr w0 p s (MM p) (bB s 1) 1:=by
 intro st c en k i n w hr hM;refine (FK w0 p s c en k i n w hr).mono ?_;intro e w' hx;show iO w0 p s (MM p) en w (bd (aV (ku s en) s en i) fun l j=>.ok ({ st with m:={ st.m with types:=l } },j)) e w';cases hR:aV (ku s en) s en i with
 | error z=>rw [hR] at hx;exact hx
 | ok v =>
  obtain ⟨l,j⟩:=v;rw [hR] at hx;obtain ⟨rfl,⟨v,hv,h2⟩,h3⟩:=hx;obtain ⟨g,hG⟩:=hM.2.2.2;obtain ⟨g',hg',hG'⟩:=hG.lt hr.lt;exact ⟨rfl,⟨_,k,n,h2,hM.1,hM.2.1,hM.2.2.1,g',hG'.Hq (Kp.but h3) hr.lt hg' hv⟩,But.t h3⟩
theorem U2 {w0:World} {p:Nat} {s:ByteArray} (hU:∀u,Below w0.heap.size w0 u->iW u):kr w0 p s (MM p) (bB s 2) 2:=by
 intro st c en k i n w hr hM;refine (NB w0 p s c en k i n w hr hU).mono ?_;intro e w' hx;show iO w0 p s (MM p) en w (bd (aV (jv s en) s en i) fun l j=>.ok ({ st with m:={ st.m with imports:=l } },j)) e w';cases hR:aV (jv s en) s en i with
 | error z=>rw [hR] at hx;exact hx
 | ok v =>
  obtain ⟨l,j⟩:=v;rw [hR] at hx;obtain ⟨rfl,⟨v,hv,h2⟩,h3⟩:=hx;obtain ⟨g,hG⟩:=hM.2.2.2;obtain ⟨g',hg',hG'⟩:=hG.lt hr.lt;exact ⟨rfl,⟨_,k,n,h2,hM.1,hM.2.1,hM.2.2.1,g',hG'.Hr (Kp.but h3) hr.lt hg' hv⟩,But.t h3⟩
theorem U4 {w0:World} {p:Nat} {s:ByteArray}:kr w0 p s (MM p) (bB s 4) 4:=by
 intro st c en k i n w hr hM;refine (NG w0 p s c en k i n w hr).mono ?_;intro e w' hx;show iO w0 p s (MM p) en w (bd (aV (lX s en) s en i) fun l j=>.ok ({ st with m:={ st.m with tables:=l } },j)) e w';cases hR:aV (lX s en) s en i with
 | error z=>rw [hR] at hx;exact hx
 | ok v =>
  obtain ⟨l,j⟩:=v;rw [hR] at hx;obtain ⟨rfl,⟨v,hv,h2⟩,h3⟩:=hx;obtain ⟨g,hG⟩:=hM.2.2.2;obtain ⟨g',hg',hG'⟩:=hG.lt hr.lt;exact ⟨rfl,⟨_,k,n,h2,hM.1,hM.2.1,hM.2.2.1,g',hG'.Hs (Kp.but h3) hr.lt hg' hv⟩,But.t h3⟩
theorem U5 {w0:World} {p:Nat} {s:ByteArray}:kr w0 p s (MM p) (bB s 5) 5:=by
 intro st c en k i n w hr hM;refine (NI w0 p s c en k i n w hr).mono ?_;intro e w' hx;show iO w0 p s (MM p) en w (bd (aV (iz s en) s en i) fun l j=>.ok ({ st with m:={ st.m with dU:=l } },j)) e w';cases hR:aV (iz s en) s en i with
 | error z=>rw [hR] at hx;exact hx
 | ok v =>
  obtain ⟨l,j⟩:=v;rw [hR] at hx;obtain ⟨rfl,⟨v,hv,h2⟩,h3⟩:=hx;obtain ⟨g,hG⟩:=hM.2.2.2;obtain ⟨g',hg',hG'⟩:=hG.lt hr.lt;exact ⟨rfl,⟨_,k,n,h2,hM.1,hM.2.1,hM.2.2.1,g',hG'.Ht (Kp.but h3) hr.lt hg' hv⟩,But.t h3⟩
theorem U6 {w0:World} {p:Nat} {s:ByteArray}:kr w0 p s (MM p) (bB s 6) 6:=by
 intro st c en k i n w hr hM;refine (NK w0 p s c en k i n w hr 81).mono ?_;intro e w' hx;show iO w0 p s (MM p) en w (bd (aV (jR 81 s en) s en i) fun l j=>.ok ({ st with m:={ st.m with globals:=l } },j)) e w';cases hR:aV (jR 81 s en) s en i with
 | error z=>rw [hR] at hx;exact hx
 | ok v =>
  obtain ⟨l,j⟩:=v;rw [hR] at hx;obtain ⟨rfl,⟨v,hv,h2⟩,h3⟩:=hx;obtain ⟨g,hG⟩:=hM.2.2.2;obtain ⟨g',hg',hG'⟩:=hG.lt hr.lt;exact ⟨rfl,⟨_,k,n,h2,hM.1,hM.2.1,hM.2.2.1,g',hG'.Hu (Kp.but h3) hr.lt hg' hv⟩,But.t h3⟩
theorem U7 {w0:World} {p:Nat} {s:ByteArray} (hU:∀u,Below w0.heap.size w0 u->iW u):kr w0 p s (MM p) (bB s 7) 7:=by
 intro st c en k i n w hr hM;refine (NM w0 p s c en k i n w hr hU).mono ?_;intro e w' hx;show iO w0 p s (MM p) en w (bd (aV (jw s en) s en i) fun l j=>.ok ({ st with m:={ st.m with exports:=l } },j)) e w';cases hR:aV (jw s en) s en i with
 | error z=>rw [hR] at hx;exact hx
 | ok v =>
  obtain ⟨l,j⟩:=v;rw [hR] at hx;obtain ⟨rfl,⟨v,hv,h2⟩,h3⟩:=hx;obtain ⟨g,hG⟩:=hM.2.2.2;obtain ⟨g',hg',hG'⟩:=hG.lt hr.lt;exact ⟨rfl,⟨_,k,n,h2,hM.1,hM.2.1,hM.2.2.1,g',hG'.Hv (Kp.but h3) hr.lt hg' hv⟩,But.t h3⟩
theorem U8 {w0:World} {p:Nat} {s:ByteArray}:kr w0 p s (MM p) (bB s 8) 8:=by
 intro st c en k i n w hr hM;refine (SF w0 p s c en k i n w hr).mono ?_;intro e w' hx;show iO w0 p s (MM p) en w (bd (qX s en i) fun l j=>.ok ({ st with m:={ st.m with start:=l } },j)) e w';cases hR:qX s en i with
 | error z=>rw [hR] at hx;exact hx
 | ok v =>
  obtain ⟨l,j⟩:=v;rw [hR] at hx;obtain ⟨rfl,⟨v,hv,h2⟩,h3⟩:=hx;obtain ⟨g,hG⟩:=hM.2.2.2;obtain ⟨g',hg',hG'⟩:=hG.lt hr.lt;exact ⟨rfl,⟨_,k,n,h2,hM.1,hM.2.1,hM.2.2.1,g',hG'.H9 (Kp.but h3) hr.lt hg' hv⟩,But.t h3⟩
theorem U9 {w0:World} {p:Nat} {s:ByteArray}:kr w0 p s (MM p) (bB s 9) 9:=by
 intro st c en k i n w hr hM;refine (NP w0 p s c en k i n w hr 81).mono ?_;intro e w' hx;show iO w0 p s (MM p) en w (bd (aV (lj 81 s en) s en i) fun l j=>.ok ({ st with m:={ st.m with elems:=l } },j)) e w';cases hR:aV (lj 81 s en) s en i with
 | error z=>rw [hR] at hx;exact hx
 | ok v =>
  obtain ⟨l,j⟩:=v;rw [hR] at hx;obtain ⟨rfl,⟨v,hv,h2⟩,h3⟩:=hx;obtain ⟨g,hG⟩:=hM.2.2.2;obtain ⟨g',hg',hG'⟩:=hG.lt hr.lt;exact ⟨rfl,⟨_,k,n,h2,hM.1,hM.2.1,hM.2.2.1,g',hG'.Hw (Kp.but h3) hr.lt hg' hv⟩,But.t h3⟩
theorem Va {w0:World} {p:Nat} {s:ByteArray}:kr w0 p s (MM p) (bB s 11) 11:=by
 intro st c en k i n w hr hM;refine (NR w0 p s c en k i n w hr 81).mono ?_;intro e w' hx;show iO w0 p s (MM p) en w (bd (aV (lq 81 s en) s en i) fun l j=>.ok ({ st with m:={ st.m with dV:=l } },j)) e w';cases hR:aV (lq 81 s en) s en i with
 | error z=>rw [hR] at hx;exact hx
 | ok v =>
  obtain ⟨l,j⟩:=v;rw [hR] at hx;obtain ⟨rfl,⟨v,hv,h2⟩,h3⟩:=hx;obtain ⟨g,hG⟩:=hM.2.2.2;obtain ⟨g',hg',hG'⟩:=hG.lt hr.lt;exact ⟨rfl,⟨_,k,n,h2,hM.1,hM.2.1,hM.2.2.1,g',hG'.Hy (Kp.but h3) hr.lt hg' hv⟩,But.t h3⟩
theorem U3 {w0:World} {p:Nat} {s:ByteArray}:kr w0 p s (MM p) (bB s 3) 3:=by
 intro st c en k i n w hr hM;refine (ND w0 p s c en k i n w hr).mono ?_;intro e w' hx;show iO w0 p s (MM p) en w (bd (aV (lW s en) s en i) fun l j=>.ok ({ st with m:={ st.m with funcs:=l.map uI } },j)) e w';cases hR:aV (lW s en) s en i with
 | error z=>rw [hR] at hx;exact hx
 | ok v =>
  obtain ⟨l,j⟩:=v;rw [hR] at hx;obtain ⟨rfl,⟨v,hv,h2⟩,h3⟩:=hx;obtain ⟨g,hG⟩:=hM.2.2.2;obtain ⟨g',hG'⟩:=hG.Hz (Kp.but h3) hr.lt hv;exact ⟨rfl,⟨_,k,n,h2,hM.1,hM.2.1,hM.2.2.1,g',hG'⟩,But.t h3⟩
end Go.Proofs.YtegboefdolfdgaaGreatDoor
namespace Go.Proofs.YtegboefdolfdgaaGreatDoor
open Go.RowKit aA
set_option linter.unusedVariables false
namespace af
def Dq (ops:Array Oper) (n:Nat):Bool:=decide (ops.size=n) && (List.range ops.size).all (fun i=>(iw ops i).all (fun j=>decide (j<i)))
def yu (ops:Array Oper) (n:Nat) (dst:Nat->Nat) (size:Nat):Bool :=
 (List.range n).all fun i=>match ops[i]? with
  | some o=>o.dst == some (dst i) && decide (dst i<size)
  | none=>false
theorem Dr {ops:Array Oper} {n:Nat} {dst:Nat->Nat} {size:Nat} (h:yu ops n dst size=true):∀i,i<n->∃o,ops[i]?=some o/\o.dst=some (dst i)/\dst i<size:=fun i hi=>by
 unfold yu at h
 have:=(List.all_eq_true.1 h) i (List.mem_range.2 hi)
 cases ho:ops[i]? with
 | none=>rw [ho] at this;cases this
 | some o =>
  rw [ho] at this;simp only [Bool.and_eq_true,beq_iff_eq,decide_eq_true_eq] at this;exact ⟨o,rfl,this.1,this.2⟩
theorem P5 {a:Act} {k:Nat} {b:Bool} (h:a.eval (.tmp k)=.bool b):a.tmps[k]?=some (.bool b):=by
 have h':=av h;cases hk:a.tmps[k]? with
 | none=>rw [hk] at h';exact absurd h' (by simp [undef])
 | some v=>rw [hk] at h';exact congrArg some h'
theorem wants {ops:Array Oper} {o oj:Oper} {a:Act} {j k:Nat} {b want:Bool} (hg:o.guard=some (j,want)) (hj:ops[j]?=some oj) (hd:oj.dst=some k) (h:a.eval (.tmp k)=.bool b):Region.wanted o (yielded ops a.tmps)=(b == want):=by
 have hy:yielded ops a.tmps j=some b:=by
  unfold yielded;rw [hj]
  have:((some oj).bind (·.dst)).bind (a.tmps[·]?)=some (.bool b):=by
   show (oj.dst).bind (a.tmps[·]?)=_;rw [hd];exact P5 h
  rw [this]
 unfold Region.wanted;rw [hg];show (yielded ops a.tmps j == some want)=_;rw [hy];cases b<;>cases want<;>rfl
section
variable {P:Program} {ops:Array Oper} {Q:Exit->Act->World->Prop} {id:Nat} {a0:Act} {w0:World}
def Does (P:Program) (ops:Array Oper) (Q:Exit->Act->World->Prop) (p:Value->World->Prop) (o:Oper) (a:Act) (w:World):Prop :=
 (Region.wanted o (yielded ops a.tmps)=true/\o.wp P a w (fun a' w'=>∃v,a'=a.put o.dst v/\Below w.heap.size w w'/\p v w') Q)\/(Region.wanted o (yielded ops a.tmps)=false/\p undef w)
theorem Does.go {p:Value->World->Prop} {o:Oper} {a:Act} {w:World} (hg:o.guard=none) (h:o.wp P a w (fun a' w'=>∃v,a'=a.put o.dst v/\Below w.heap.size w w'/\p v w') Q):Does P ops Q p o a w:=.inl ⟨by simp [Region.wanted,hg],h⟩
theorem Does.wanted {p:Value->World->Prop} {o oj:Oper} {a:Act} {w:World} {j k:Nat} {b:Bool} (hg:o.guard=some (j,b)) (hj:ops[j]?=some oj) (hd:oj.dst=some k) (hb:a.eval (.tmp k)=.bool b) (h:o.wp P a w (fun a' w'=>∃v,a'=a.put o.dst v/\Below w.heap.size w w'/\p v w') Q):Does P ops Q p o a w :=
 .inl ⟨by rw [wants hg hj hd hb];cases b<;>rfl,h⟩
theorem Does.skip {p:Value->World->Prop} {o oj:Oper} {a:Act} {w:World} {j k:Nat} {b:Bool} (hg:o.guard=some (j,b)) (hj:ops[j]?=some oj) (hd:oj.dst=some k) (hb:a.eval (.tmp k)=.bool (!b)) (h:p undef w):Does P ops Q p o a w :=
 .inr ⟨by rw [wants hg hj hd hb];cases b<;>rfl,h⟩
theorem Does.op {p:Value->World->Prop} {o:Oper} {a:Act} {w:World} {K:Act->World->Prop} (h:Does P ops Q p o a w) (hK:∀v w',Below w.heap.size w w'->p v w'->K (a.put o.dst v) w') :
  if Region.wanted o (yielded ops a.tmps) then o.wp P a w K Q\/(o.asks P a w/\LetsOut Q) else K (a.put o.dst undef) w:=by
 rcases h with ⟨hw,h⟩|⟨hw,h⟩
 ·rw [if_pos hw];exact .inl (Oper.wp_mono (fun a' w' ⟨v,ha,hb,hp⟩=>by subst ha;exact hK v w' hb hp) h)
 ·rw [if_neg (by rw [hw];simp)];exact hK undef w (Below.refl _ _) h
theorem P6 (n:Nat) (dst:Nat->Nat) (G:Nat->Value->World->Prop) (hm:P.follows .mixedOrders=true) (hT:Dq ops n=true)
  (hinj:∀i j,i<n->j<n->dst i=dst j->i=j)
  (hdst:∀i,i<n->∃o,ops[i]?=some o/\o.dst=some (dst i)/\dst i<a0.tmps.size)
  (lC:∀i v w w',i<n->G i v w->Below w.heap.size w w'->G i v w')
  (hstep:∀i o a w,i<n->ops[i]?=some o->Fr a0 dst n a->Below w0.heap.size w0 w->(∀j ∈ deps o,G j (a.eval (.tmp (dst j))) w)->Does P ops Q (G i) o a w)
  (hend:∀a w,Fr a0 dst n a->Below w0.heap.size w0 w->(∀i,i<n->G i (a.eval (.tmp (dst i))) w)->Q .normal a w) :
  (Code.region id ops true).wp P Q a0 w0:=by
 unfold Dq at hT;rw [Bool.and_eq_true,decide_eq_true_eq,List.all_eq_true] at hT;obtain ⟨hn,hT⟩:=hT;have hlow:∀i,i<ops.size->∀j ∈ iw ops i,j<i:=fun i hi j hj=>of_decide_eq_true ((List.all_eq_true.1 (hT i (List.mem_range.2 hi))) j hj);refine xE (fun L a w=>L.size=ops.size/\Fr a0 dst n a/\Below w0.heap.size w0 w/\∀i,i<n->L.getD i false=true->G i (a.eval (.tmp (dst i))) w) hm ?_ ?_ ?_
 ·rintro L i a w hi ⟨hsz,hF,hB,hG⟩;obtain ⟨qN,o,ho,hd⟩:=xF hi;obtain ⟨dW,iK⟩:=xG qN;have hin:i<n:=by omega
  obtain ⟨o',ho',ja,hos⟩:=hdst i hin
  have:o'=o:=by rw [ho] at ho';exact (Option.some.inj ho').symm
  subst this;have hs:=hstep i o' a w hin ho hF hB (fun j hj=>hG j (by have:=hlow i (by omega) j (by rw [oJ ho];exact hj);omega) (hd j hj));unfold wpOp;rw [ho];refine hs.op fun v w' hBw qB=>?_;have rG:dst i<a.tmps.size:=by rw [hF.size];exact hos
  refine ⟨by rw [Array.size_setIfInBounds,hsz],by rw [ja];exact hF.put hin v,hB.trans (hBw.mono hB.size),fun j hj iD=>?_⟩;rw [ja];by_cases he:j=i
  ·subst he;rw [uD v rG];exact qB
  ·rw [fN L i _ dW,if_neg he] at iD;rw [qg v (fun e=>he (hinj i j hin hj e).symm)];exact lC j _ w w' hj (hG j hj iD) hBw
 ·rintro L a w hr ⟨hsz,hF,hB,hG⟩;refine hend a w hF hB fun i hi=>hG i hi ?_
  have key:∀k,k<ops.size->L.getD k false=true:=by
   intro k
   induction k using Nat.strongRecOn with
   | _ k ih =>
    intro hk;cases hL:L.getD k false with
    | true=>rfl
    | false =>
     obtain ⟨o,ho⟩:∃o,ops[k]?=some o:=⟨_,Array.getElem?_eq_getElem hk⟩
     have hm:k ∈ Region.ready .any ops L:=by
      refine GQ ho ?_ fun j hj=>?_
      ·have:k<L.size:=by omega
       simp only [Array.getD,this] at hL ⊢;exact hL
      ·have hj':j ∈ iw ops k:=by rw [oJ ho];exact hj
       have:=hlow k hk j hj'
       exact ih j this (by omega)
     rw [hr] at hm;cases hm
  exact key i (by omega)
 ·have hf:∀k,(Array.replicate ops.size false).getD k false=false:=fun k=>by
   simp [Array.getD]
  refine ⟨by simp,⟨rfl,rfl,fun _ _=>rfl⟩,⟨rfl,rfl,rfl,Nat.le_refl _,fun _ _=>rfl⟩,fun i _ hL=>?_⟩;rw [hf] at hL;cases hL
theorem GR (n:Nat) (dst:Nat->Nat) (G:Nat->Value->World->Prop) (hn:n<=ops.size)
  (hinj:∀i j,i<n->j<n->dst i=dst j->i=j)
  (hdst:∀i,i<n->∃o,ops[i]?=some o/\o.dst=some (dst i)/\dst i<a0.tmps.size)
  (lC:∀i v w w',i<n->G i v w->Below w.heap.size w w'->G i v w')
  (hstep:∀i o a w,i<n->ops[i]?=some o->Fr a0 dst n a->Below w0.heap.size w0 w->(∀j ∈ List.range i,G j (a.eval (.tmp (dst j))) w)->Does P ops Q (G i) o a w)
  (fu:∀a w,Fr a0 dst n a->Below w0.heap.size w0 w->(∀i,i<n->G i (a.eval (.tmp (dst i))) w)->wpList P ops Q (ops.toList.drop n) a w) :
  (Code.region id ops false).wp P Q a0 w0:=by
 have key:∀r k,k+r=n->∀a w,Fr a0 dst n a->Below w0.heap.size w0 w->(∀j,j<k->G j (a.eval (.tmp (dst j))) w)->wpList P ops Q (ops.toList.drop k) a w:=by
  intro r
  induction r with
  | zero =>
   intro k hk a w hF hB hG;obtain rfl:k=n:=by omega
   exact fu a w hF hB hG
  | succ r ih =>
   intro k hk a w hF hB hG;have hkn:k<n:=by omega
   obtain ⟨o,ho,ja,hos⟩:=hdst k hkn;have hks:k<ops.size:=by omega
   have qM:ops.toList.drop k=o :: ops.toList.drop (k+1):=by
    rw [List.drop_eq_getElem_cons (by simpa using hks)];congr 1
    have:=Array.getElem?_eq_getElem hks
    rw [ho] at this;simpa using (Option.some.inj this).symm
   rw [qM];unfold wpList;refine (hstep k o a w hkn ho hF hB fun j hj=>hG j (List.mem_range.1 hj)).op fun v w' hBw qB=>?_;have rG:dst k<a.tmps.size:=by rw [hF.size];exact hos
   refine ih (k+1) (by omega) _ w' (by rw [ja];exact hF.put hkn v) (hB.trans (hBw.mono hB.size)) fun j hj=>?_;rw [ja];by_cases he:j=k
   ·subst he;rw [uD v rG];exact qB
   ·rw [qg v (fun e=>he (hinj k j hkn (by omega) e).symm)];exact lC j _ w w' (by omega) (hG j (by omega)) hBw
 refine wp_region_list ?_
 have:=key n 0 (by omega) a0 w0 ⟨rfl,rfl,fun _ _=>rfl⟩ (Below.refl _ _) (fun j hj=>absurd hj (by omega))
 rwa [List.drop_zero] at this
end
end af
namespace af
def Ff (ops:Array Oper) (C:List Nat) (lo size:Nat):Bool :=
 qc ops (ops.size-1) && decide (C.getLast?=some (ops.size-1)) && decide C.Nodup &&
 (List.range ops.size).all (fun i=>match ops[i]? with
  | some o=>o.guard.isNone && (if C.contains i then decide (o.dst=none\/(o.dst=some (lo+i)/\lo+i<size)) else (decide (o.dst=some (lo+i)) && decide (lo+i<size) && (deps o).all (fun j=>!C.contains j)))
  | none=>false) &&
 (List.range (C.length-1)).all (fun k=>(iw ops (C.getD (k+1) 0)).contains (C.getD k 0))
section
variable {P:Program} {ops:Array Oper} {Q:Exit->Act->World->Prop} {id:Nat} {a0:Act} {w0:World}
def env (C:List Nat) (lo:Nat) (a:Act) (j:Nat):Value:=a.eval (.tmp (lo+C.getD j 0))
structure Low (a0:Act) (lo N:Nat) (a:Act):Prop where
 defers:a.defers=a0.defers
 size:a.tmps.size=a0.tmps.size
 rest:∀k,k<lo\/lo+N<=k->a.tmps[k]?=a0.tmps[k]?
theorem Low.eval {lo N:Nat} {a:Act} (h:Low a0 lo N a) (k:Nat) (hk:k<lo\/lo+N<=k):a.eval (.tmp k)=a0.eval (.tmp k):=by
 show a.tmps.getD k undef=a0.tmps.getD k undef;rw [Array.getD_eq_getD_getElem?,Array.getD_eq_getD_getElem?,h.rest k hk]
theorem Low.put {lo N i:Nat} {a:Act} (h:Low a0 lo N a) (hi:i<N) (v:Value):Low a0 lo N (a.put (some (lo+i)) v):=by
 refine ⟨h.defers,?_,fun k hk=>?_⟩
 ·show (a.tmps.setIfInBounds (lo+i) v).size=_;rw [Array.size_setIfInBounds,h.size]
 ·show (a.tmps.setIfInBounds (lo+i) v)[k]?=_;rw [Array.getElem?_setIfInBounds_ne (by omega),h.rest k hk]
theorem Fg {a:Act} {lo j:Nat} {v:Value} (h:a.eval (.tmp (lo+j))=v):a.tmps[j+lo]?.getD undef=v:=by
 rw [Nat.add_comm];exact av h
theorem qd (N lo size:Nat) (vals:Nat->Value) (C:List Nat) (S:World->Prop) (U:Nat->(Nat->Value)->World->Prop) (hm:P.follows .mixedOrders=true) (hN:ops.size=N) (hok:Ff ops C lo size=true) (hs:a0.tmps.size=size)
  (Fh:∀k f g w,(∀j,j<k->f j=g j)->U k f w->U k g w)
  (hread:∀i o a w,i<N->C.contains i=false->ops[i]?=some o->Low a0 lo N a->S w->(∀j ∈ deps o,a.tmps[j+lo]?.getD undef=vals j)->o.wp P a w (fun a' w'=>a'=a.put o.dst (vals i)/\w'=w) Q)
  (iV:∀k i o a w,C[k]?=some i->ops[i]?=some o->Low a0 lo N a->S w->U k (env C lo a) w->(∀j ∈ deps o,C.contains j=false->a.tmps[j+lo]?.getD undef=vals j)->o.wp P a w (fun a' w'=>∃v,a'=a.put o.dst v/\(k+1<C.length->S w'/\o.dst=some (lo+i))/\U (k+1) (fun j=>if j=k then v else env C lo a j) w') Q)
  (hend:∀a w,Low a0 lo N a->(∃f,(∀j,j+1<C.length->f j=env C lo a j)/\U C.length f w)->Q .normal a w)
  (hS0:S { w0 with drawn:=w0.drawn+1 }) (Lr:∀f,U 0 f { w0 with drawn:=w0.drawn+1 }) :
  (Code.region id ops true).wp P Q a0 w0:=by
 subst hN;unfold Ff at hok;simp only [Bool.and_eq_true,List.all_eq_true,decide_eq_true_eq] at hok;obtain ⟨⟨⟨⟨hT,hlast⟩,hnd⟩,Ls⟩,qM⟩:=hok;have fM:=hT;unfold qc at fM;rw [Bool.and_eq_true,List.all_eq_true,decide_eq_true_eq] at fM;obtain ⟨hn,fM⟩:=fM
 have Lt:∀i o,ops[i]?=some o->o.guard=none/\(C.contains i=true->o.dst=none\/(o.dst=some (lo+i)/\lo+i<size))/\(C.contains i=false->o.dst=some (lo+i)/\lo+i<size/\∀j ∈ deps o,C.contains j=false):=fun i o ho=>by
  have hi:i<ops.size:=(Array.getElem?_eq_some_iff.1 ho).1;have h:=Ls i (List.mem_range.2 hi);rw [ho] at h;simp only [Bool.and_eq_true,Option.isNone_iff_eq_none] at h;refine ⟨h.1,fun hc=>?_,fun hc=>?_⟩
  ·have h2:=h.2;rw [if_pos hc] at h2;exact of_decide_eq_true h2
  ·have h2:=h.2;rw [if_neg (by simp only [hc];decide)] at h2;simp only [Bool.and_eq_true,decide_eq_true_eq,List.all_eq_true,Bool.not_eq_true'] at h2;exact ⟨h2.1.1,h2.1.2,h2.2⟩
 have hlen:0<C.length:=by
  cases C with
  | nil=>simp at hlast
  | cons x r=>simp
 have Fj:C[C.length-1]?=some (ops.size-1):=by rw [<- List.getLast?_eq_getElem?];exact hlast
 have hinj:∀j k i,C[j]?=some i->C[k]?=some i->j=k:=fun j k i h1 h2=>by
  obtain ⟨a1,a2⟩:=List.getElem?_eq_some_iff.1 h1;obtain ⟨b1,b2⟩:=List.getElem?_eq_some_iff.1 h2;have hp:=List.pairwise_iff_getElem.1 hnd;rcases Nat.lt_trichotomy j k with h|h|h
  ·exact absurd (a2.trans b2.symm) (hp j k a1 b1 h)
  ·exact h
  ·exact absurd (b2.trans a2.symm) (hp k j b1 a1 h)
 refine xE (fun L a w=>L.size=ops.size/\Closed ops L/\Low a0 lo ops.size a/\∃k,k<=C.length/\(∀j i,C[j]?=some i->(L.getD i false=true↔j<k))/\(∀i,i<ops.size->C.contains i=false->L.getD i false=true->a.eval (.tmp (lo+i))=vals i)/\(k<C.length->S w/\U k (env C lo a) w)/\(k=C.length->(∀i,i<ops.size->L.getD i false=true)/\∃f,(∀j,j+1<C.length->f j=env C lo a j)/\U C.length f w)) hm ?_ ?_ ?_
 ·rintro L i a w hi ⟨hsz,hc,hF,k,hkl,hk,hG,hA,hB⟩;obtain ⟨qN,o,ho,hd⟩:=xF hi;obtain ⟨dW,iK⟩:=xG qN;have his:i<ops.size:=by omega
  have hd':∀j ∈ iw ops i,L.getD j false=true:=by rw [oJ ho];exact hd
  have hkn:k<C.length:=by
   rcases Nat.lt_or_ge k C.length with h|h
   ·exact h
   ·have:=(hB (by omega)).1 i his;rw [this] at iK;cases iK
  obtain ⟨hS,hU⟩:=hA hkn;obtain ⟨hgd,hch,hrd⟩:=Lt i o ho;have hsz':(L.setIfInBounds i true).size=ops.size:=by rw [Array.size_setIfInBounds,hsz]
  have hc':Closed ops (L.setIfInBounds i true):=fun m hm j hj=>by
   rw [fN L i _ dW] at hm ⊢;split
   ·rfl
   ·by_cases he:m=i
    ·subst he;exact hd' j hj
    ·rw [if_neg he] at hm;exact hc m hm j hj
  have hlow:∀j ∈ deps o,j<ops.size:=fun j hj=>by
   have:=fM i (List.mem_range.2 his)
   rw [Bool.and_eq_true,List.all_eq_true] at this
   have:=of_decide_eq_true (this.1 j (by rw [oJ ho];exact hj))
   omega
  unfold wpOp;rw [ho];show ite _ _ _;rw [if_pos (by simp [Region.wanted,hgd])];left;cases hci:C.contains i with
  | false =>
   obtain ⟨hdst,hdl,Lu⟩:=hrd hci;refine Oper.wp_mono ?_ (hread i o a w his hci ho hF hS fun j hj=>Fg (hG j (hlow j hj) (Lu j hj) (hd j hj)));rintro a' w' ⟨rfl,rfl⟩;rw [hdst];refine ⟨hsz',hc',hF.put his _,k,hkl,fun j i' hj=>?_,fun i' hi' vV hL'=>?_,fun h=>⟨hS,Fh k _ _ _ (fun j hj=>?_) hU⟩,fun h=>absurd h (by omega)⟩
   ·have hne:i'≠i:=fun e=>by (subst e;have:C.contains i'=true:=(by simpa using List.mem_of_getElem? hj);rw [hci] at this;cases this)
    rw [fN L i _ dW,if_neg hne];exact hk j i' hj
   ·by_cases he:i'=i
    ·subst he;exact uD _ (by rw [hF.size,hs];exact hdl)
    ·rw [fN L i _ dW,if_neg he] at hL';rw [qg _ (by omega)];exact hG i' hi' vV hL'
   ·have hj':j<C.length:=by omega
    have hcm:C.contains (C.getD j 0)=true:=by
     rw [List.getD_eq_getElem?_getD,List.getElem?_eq_getElem hj'];simp
    exact (qg _ (fun e=>by (have:C.getD j 0=i:=(by omega);rw [this,hci] at hcm;cases hcm))).symm
  | true =>
   obtain ⟨kk,hkk⟩:∃kk,C[kk]?=some i:=List.getElem?_of_mem (by simpa using hci);have Vt:kk<C.length:=(List.getElem?_eq_some_iff.1 hkk).1
   have e1:kk=k:=by
    have h1:¬ kk<k:=fun h=>by rw [(hk kk i hkk).2 h] at iK;cases iK
    rcases Nat.eq_zero_or_pos kk with h0|h0
    ·omega
    ·have hp:=qM (kk-1) (List.mem_range.2 (by omega));rw [show kk-1+1=kk by omega] at hp;have hg1:C.getD kk 0=i:=by rw [List.getD_eq_getElem?_getD,hkk];rfl
     rw [hg1] at hp;have hpl:kk-1<C.length:=by omega
     have hq:C[kk-1]?=some (C.getD (kk-1) 0):=by rw [List.getD_eq_getElem?_getD,List.getElem?_eq_getElem hpl];rfl
     have:=(hk (kk-1) _ hq).1 (hd' _ (by simpa using hp))
     omega
   subst e1;have AP:=hch hci;refine Oper.wp_mono ?_ (iV kk i o a w hkk ho hF hS hU fun j hj hjc=>Fg (hG j (hlow j hj) hjc (hd j hj)));rintro a' w' ⟨v,rfl,h1,h2⟩;have hgi:C.getD kk 0=i:=by rw [List.getD_eq_getElem?_getD,hkk];rfl
   have hF':Low a0 lo ops.size (a.put o.dst v):=by
    rcases AP with h|h
    ·rw [h];exact hF
    ·rw [h.1];exact hF.put his v
   refine ⟨hsz',hc',hF',kk+1,by omega,fun j i' hj=>?_,fun i' hi' vV hL'=>?_,fun h=>?_,fun h=>?_⟩
   ·rw [fN L i _ dW];by_cases he:i'=i
    ·subst he;have:=hinj j kk i' hj hkk;subst this;simp
    ·rw [if_neg he]
     have:=hk j i' hj
     have hjk:j≠kk:=fun e=>he (by subst e;rw [hkk] at hj;exact (Option.some.inj hj).symm);rw [this];omega
   ·have hne:i'≠i:=fun e=>by subst e;rw [hci] at vV;cases vV
    rw [fN L i _ dW,if_neg hne] at hL';rcases AP with h|h
    ·rw [h];exact hG i' hi' vV hL'
    ·rw [h.1,qg _ (by omega)];exact hG i' hi' vV hL'
   ·obtain ⟨Lv,hdd⟩:=h1 h;refine ⟨Lv,Fh _ _ _ _ (fun j hj=>?_) h2⟩;show (if j=kk then v else env C lo a j)=_;unfold env;rw [hdd];by_cases he:j=kk
    ·subst he;rw [if_pos rfl,hgi];exact (uD _ (by (rw [hF.size,hs];rcases AP with h|h;(rw [h] at hdd;cases hdd);exact h.2))).symm
    ·rw [if_neg he]
     exact (qg _ (fun e=>by
      have hjl:j<C.length:=by omega
      have:C[j]?=some i:=by (rw [List.getElem?_eq_getElem hjl];congr 1;have:C.getD j 0=i:=(by omega);rw [List.getD_eq_getElem?_getD,List.getElem?_eq_getElem hjl] at this;exact this)
      exact he (hinj j kk i this hkk))).symm
   ·have hil:i=ops.size-1:=by
     have:kk=C.length-1:=by omega
     rw [this,Fj] at hkk;exact (Option.some.inj hkk).symm
    refine ⟨fun i' hi'=>?_,fun j=>if j=kk then v else env C lo a j,fun j hj=>?_,by rw [<- h];exact h2⟩
    ·rw [fN L i _ dW];by_cases he:i'=i
     ·rw [if_pos he]
     ·rw [if_neg he]
      have:=fM i (List.mem_range.2 his)
      rw [Bool.and_eq_true,Bool.or_eq_true,decide_eq_true_eq] at this;rcases this.2 with h9|h9
      ·omega
      ·have hjm:i' ∈ sK ops [i] i:=by simpa using (List.all_eq_true.1 h9) i' (List.mem_range.2 (by omega))
       rcases xH hc hd' i [i] (fun m hm=>.inl (List.mem_singleton.1 hm)) i' hjm with h8|h8
       ·exact absurd h8 he
       ·exact h8
    ·show (if j=kk then v else env C lo a j)=env C lo (a.put o.dst v) j;rw [if_neg (by omega)];unfold env;rcases AP with h7|h7
     ·rw [h7];rfl
     ·rw [h7.1]
      exact (qg _ (fun e=>by
       have hjl:j<C.length:=by omega
       have:C[j]?=some i:=by (rw [List.getElem?_eq_getElem hjl];congr 1;have:C.getD j 0=i:=(by omega);rw [List.getD_eq_getElem?_getD,List.getElem?_eq_getElem hjl] at this;exact this)
       have:=hinj j kk i this hkk
       omega)).symm
 ·rintro L a w hr ⟨hsz,hc,hF,k,hkl,hk,hG,hA,hB⟩;have hall:∀i,i<ops.size->L.getD i false=true:=fun i hi=>uE hT hsz hr i hi
  have hkk:k=C.length:=by
   have:=(hk (C.length-1) (ops.size-1) Fj).1 (hall _ (by omega))
   omega
  exact hend a w hF (hB hkk).2
 ·have hf:∀k,(Array.replicate ops.size false).getD k false=false:=fun k=>by simp [Array.getD]
  have hcl:Closed ops (Array.replicate ops.size false):=by
   intro i hi;rw [hf] at hi;cases hi
  refine ⟨by simp,hcl,⟨rfl,rfl,fun _ _=>rfl⟩,0,by omega,fun j i hj=>by rw [hf];simp,fun i _ _ hL=>(by rw [hf] at hL;cases hL),fun _=>⟨hS0,Lr _⟩,fun h=>by omega⟩
end
end af
end Go.Proofs.YtegboefdolfdgaaGreatDoor
