/- Texts that the claim needs. -/
import Derived.Test.YtegboefdolfdgaaGreatDoorQDRe28
import Derived.Test.YtegboefdolfdgaaGreatDoorQDRe29
import Derived.Test.YtegboefdolfdgaaGreatDoorQDRe5
namespace Go.Proofs.YtegboefdolfdgaaGreatDoor
open Go.RowKit aA ai
set_option linter.unusedVariables false
namespace ai
structure Sg where
 m:Mod 81
 codes:Nat
 cnt:Nat
def Sm (p g:Nat) (w:World) (k:Nat):Prop:=p<k/\k<w.heap.size/\k≠g
structure MG (p g:Nat) (m:Mod 81) (c:Nat->Value) (w:World):Prop where
 types:aI 2 uH w (Sm p g w) (c 0) m.types
 imports:aI 3 uJ w (Sm p g w) (c 1) m.imports
 tables:aI 3 nZ w (Sm p g w) (c 3) m.tables
 dU:aI 3 nZ w (Sm p g w) (c 4) m.dU
 globals:aI 9 (uO 81) w (Sm p g w) (c 5) m.globals
 exports:aI 3 uM w (Sm p g w) (c 6) m.exports
 start:aI 1 uD w (Sm p g w) (c 7) m.start
 elems:aI 8 (uQ 81) w (Sm p g w) (c 8) m.elems
 dV:aI 8 (uS 81) w (Sm p g w) (c 9) m.dV
 funcs:∃(o:Option Addr) (ob cap:Nat) (ty:Nat->Int) (a b:Nat->Value),c 2=.slice o m.funcs.length cap/\(0<m.funcs.length->o=some ⟨g,ob,none⟩/\FB g ob m.funcs.length ty a b w/\p<g)/\∀j f,m.funcs[j]?=some f->ty j=f.type/\aH w (Sm p g w) (a j) f.locals/\ah w (Sm p g w) 81 (b j) f.body
def MM (p:Nat) (st:Sg) (c:Nat->Value) (k n:Nat) (w:World):Prop:=k=st.codes/\n=st.cnt/\n<=65536/\∃g,MG p g st.m c w
def Kp (p:Nat) (w w':World):Prop:=(∀b,p<b->b<w.heap.size->w'.heap[b]?=w.heap[b]?)/\w.heap.size<=w'.heap.size
theorem Kp.sm {p g:Nat} {w w':World} (h:Kp p w w'):∀k,Sm p g w k->Sm p g w' k/\w'.heap[k]?=w.heap[k]?:=fun k hk=>⟨⟨hk.1,Nat.lt_of_lt_of_le hk.2.1 h.2,hk.2.2⟩,h.1 k hk.1 hk.2.1⟩
theorem Kp.but {p:Nat} {w w':World} (h:But p w w'):Kp p w w':=⟨fun b hb hl=>h.block b hl (by simp;omega),h.size⟩
theorem MG.keep {p g:Nat} {m:Mod 81} {c:Nat->Value} {w w':World} (h:MG p g m c w) (hk:Kp p w w'):MG p g m c w' where
 types:=aI.keep uG hk.sm h.types
 imports:=aI.keep uI hk.sm h.imports
 tables:=aI.keep mU hk.sm h.tables
 dU:=aI.keep mU hk.sm h.dU
 globals:=aI.keep (uN 81) hk.sm h.globals
 exports:=aI.keep uL hk.sm h.exports
 start:=aI.keep sS hk.sm h.start
 elems:=aI.keep (uP 81) hk.sm h.elems
 dV:=aI.keep (uR 81) hk.sm h.dV
 funcs:=by
  obtain ⟨o,ob,cap,ty,a,b,h1,h2,h3⟩:=h.funcs;exact ⟨o,ob,cap,ty,a,b,h1,fun h0=>⟨(h2 h0).1,(h2 h0).2.1.keep (hk.1 g (h2 h0).2.2 (h2 h0).2.1.lt),(h2 h0).2.2⟩,fun j f hj=>⟨(h3 j f hj).1,(h3 j f hj).2.1.keep hk.sm,ah.keep hk.sm _ _ _ (h3 j f hj).2.2⟩⟩
theorem KA (p:Nat):yw p (MM p):=fun st c k n w w' ⟨h1,h2,h3,g,h4⟩ hb hs=>⟨h1,h2,h3,g,h4.keep ⟨hb,hs⟩⟩
theorem oU {p g:Nat} {w w':World} (hp:p<w.heap.size) (hg:g<w.heap.size):∀k,Since w.heap.size w' none k->Sm p g w' k/\w'.heap[k]?=w'.heap[k]?:=fun k hk=>⟨⟨by have:=hk.1;omega,hk.2.1,by have:=hk.1;omega⟩,rfl⟩
theorem MG.lt {p g:Nat} {m:Mod 81} {c:Nat->Value} {w:World} (h:MG p g m c w) (hp:p<w.heap.size):∃g',g'<w.heap.size/\MG p g' m c w:=by
 by_cases hg:g<w.heap.size
 ·exact ⟨g,hg,h⟩
 ·have hs:∀k,Sm p g w k->Sm p p w k/\w.heap[k]?=w.heap[k]?:=fun k hk=>⟨⟨hk.1,hk.2.1,by have:=hk.1;omega⟩,rfl⟩;refine ⟨p,hp,⟨aI.keep uG hs h.types,aI.keep uI hs h.imports,aI.keep mU hs h.tables,aI.keep mU hs h.dU,aI.keep (uN 81) hs h.globals,aI.keep uL hs h.exports,aI.keep sS hs h.start,aI.keep (uP 81) hs h.elems,aI.keep (uR 81) hs h.dV,?_⟩⟩;obtain ⟨o,ob,cap,ty,a,b,h1,h2,h3⟩:=h.funcs;refine ⟨o,ob,cap,ty,a,b,h1,fun h0=>absurd (h2 h0).2.1.lt hg,fun j f hj=>?_⟩;have hj0:j<m.funcs.length:=(List.getElem?_eq_some_iff.1 hj).1;exact absurd (h2 (by omega)).2.1.lt hg
theorem MG.G9 {p g:Nat} {m:Mod 81} {c:Nat->Value} {w w':World} (h:MG p g m c w) (hk:Kp p w w') (hp:p<w.heap.size) (hg:g<w.heap.size) {v:Value} {l:List _} (hv:aI 2 uH w' (Since w.heap.size w' none) v l):MG p g { m with types:=l } (upd c 0 v) w' :=
 { h.keep hk with types:=aI.keep uG (oU hp hg) hv }
theorem MG.Ha {p g:Nat} {m:Mod 81} {c:Nat->Value} {w w':World} (h:MG p g m c w) (hk:Kp p w w') (hp:p<w.heap.size) (hg:g<w.heap.size) {v:Value} {l:List _} (hv:aI 3 uJ w' (Since w.heap.size w' none) v l):MG p g { m with imports:=l } (upd c 1 v) w' :=
 { h.keep hk with imports:=aI.keep uI (oU hp hg) hv }
theorem MG.Hb {p g:Nat} {m:Mod 81} {c:Nat->Value} {w w':World} (h:MG p g m c w) (hk:Kp p w w') (hp:p<w.heap.size) (hg:g<w.heap.size) {v:Value} {l:List _} (hv:aI 3 nZ w' (Since w.heap.size w' none) v l):MG p g { m with tables:=l } (upd c 3 v) w' :=
 { h.keep hk with tables:=aI.keep mU (oU hp hg) hv }
theorem MG.Hd {p g:Nat} {m:Mod 81} {c:Nat->Value} {w w':World} (h:MG p g m c w) (hk:Kp p w w') (hp:p<w.heap.size) (hg:g<w.heap.size) {v:Value} {l:List _} (hv:aI 3 nZ w' (Since w.heap.size w' none) v l):MG p g { m with dU:=l } (upd c 4 v) w' :=
 { h.keep hk with dU:=aI.keep mU (oU hp hg) hv }
theorem MG.He {p g:Nat} {m:Mod 81} {c:Nat->Value} {w w':World} (h:MG p g m c w) (hk:Kp p w w') (hp:p<w.heap.size) (hg:g<w.heap.size) {v:Value} {l:List _} (hv:aI 9 (uO 81) w' (Since w.heap.size w' none) v l):MG p g { m with globals:=l } (upd c 5 v) w' :=
 { h.keep hk with globals:=aI.keep (uN 81) (oU hp hg) hv }
theorem MG.Hf {p g:Nat} {m:Mod 81} {c:Nat->Value} {w w':World} (h:MG p g m c w) (hk:Kp p w w') (hp:p<w.heap.size) (hg:g<w.heap.size) {v:Value} {l:List _} (hv:aI 3 uM w' (Since w.heap.size w' none) v l):MG p g { m with exports:=l } (upd c 6 v) w' :=
 { h.keep hk with exports:=aI.keep uL (oU hp hg) hv }
theorem MG.Hk {p g:Nat} {m:Mod 81} {c:Nat->Value} {w w':World} (h:MG p g m c w) (hk:Kp p w w') (hp:p<w.heap.size) (hg:g<w.heap.size) {v:Value} {l:List _} (hv:aI 1 uD w' (Since w.heap.size w' none) v l):MG p g { m with start:=l } (upd c 7 v) w' :=
 { h.keep hk with start:=aI.keep sS (oU hp hg) hv }
theorem MG.Hg {p g:Nat} {m:Mod 81} {c:Nat->Value} {w w':World} (h:MG p g m c w) (hk:Kp p w w') (hp:p<w.heap.size) (hg:g<w.heap.size) {v:Value} {l:List _} (hv:aI 8 (uQ 81) w' (Since w.heap.size w' none) v l):MG p g { m with elems:=l } (upd c 8 v) w' :=
 { h.keep hk with elems:=aI.keep (uP 81) (oU hp hg) hv }
theorem MG.Hh {p g:Nat} {m:Mod 81} {c:Nat->Value} {w w':World} (h:MG p g m c w) (hk:Kp p w w') (hp:p<w.heap.size) (hg:g<w.heap.size) {v:Value} {l:List _} (hv:aI 8 (uS 81) w' (Since w.heap.size w' none) v l):MG p g { m with dV:=l } (upd c 9 v) w' :=
 { h.keep hk with dV:=aI.keep (uR 81) (oU hp hg) hv }
theorem Us {w:World} {S:Nat->Prop} {v:Value} {l:List Int} (h:aI 3 uK w S v l):(l = []/\∃o k,v=.slice o 0 k)\/∃g ob k,v=.slice (some ⟨g,ob,none⟩) l.length k/\S g/\FB g ob l.length (fun j=>l.getD j 0) (fun _=>.slice none 0 0) (fun _=>.slice none 0 0) w:=by
 rcases h.2 with ⟨rfl,o,k,rfl⟩|⟨g,ob,k,rfl,hx⟩
 ·exact .inl ⟨rfl,o,k,rfl⟩
 ·cases l with
  | nil=>exact .inl ⟨rfl,_,_,rfl⟩
  | cons x0 r =>
   obtain ⟨hS,⟨cur,KG⟩,_⟩:=hx 0 x0 rfl;refine .inr ⟨g,ob,k,rfl,hS,cur,KG,fun j hj=>?_⟩;obtain ⟨_,_,h1,h2,h3⟩:=hx j ((x0 :: r)[j]'hj) (List.getElem?_eq_getElem hj);unfold World.cell? at h1 h2 h3;rw [KG] at h1 h2 h3;have e:(x0 :: r).getD j 0=(x0 :: r)[j]:=by rw [List.getD_eq_getElem?_getD,List.getElem?_eq_getElem hj];rfl
   exact ⟨by show _=some (Value.int .i64 ((x0 :: r).getD j 0));rw [e];exact h1,h2,h3⟩
theorem Ut (w:World) (S:Nat->Prop):aH w S (.slice none 0 0) []:=⟨by simp,.inl ⟨rfl,none,0,rfl⟩⟩
theorem Uu (w:World) (S:Nat->Prop):∀d,ah w S d (.slice none 0 0) (none_ d)
 | 0=>⟨none,0,rfl⟩
 | d+1=>⟨by simp [none_],.inl ⟨rfl,none,0,rfl⟩⟩
def uA (t:Int):uq 81:=⟨t,[],none_ 81⟩
theorem MG.Hj {p g:Nat} {m:Mod 81} {c:Nat->Value} {w w':World} (h:MG p g m c w) (hk:Kp p w w') (hp:p<w.heap.size) {v:Value} {l:List Int} (hv:aI 3 uK w' (Since w.heap.size w' none) v l):∃g',MG p g' { m with funcs:=l.map uA } (upd c 2 v) w':=by
 have main:∀g',(∀k,Sm p g w' k->k<w.heap.size->k≠g')->(∃o ob cap,v=.slice o l.length cap/\(0<l.length->o=some ⟨g',ob,none⟩/\FB g' ob l.length (fun j=>l.getD j 0) (fun _=>.slice none 0 0) (fun _=>.slice none 0 0) w'/\p<g'))->MG p g' { m with funcs:=l.map uA } (upd c 2 v) w':=by
  intro g' hg' ⟨o,ob,cap,hv1,hv2⟩
  have hs:∀k,Sm p g w k->Sm p g' w' k/\w'.heap[k]?=w.heap[k]?:=fun k hk'=>by
   obtain ⟨a1,a2⟩:=hk.sm k hk';exact ⟨⟨a1.1,a1.2.1,hg' k a1 hk'.2.1⟩,a2⟩
  refine ⟨aI.keep uG hs h.types,aI.keep uI hs h.imports,aI.keep mU hs h.tables,aI.keep mU hs h.dU,aI.keep (uN 81) hs h.globals,aI.keep uL hs h.exports,aI.keep sS hs h.start,aI.keep (uP 81) hs h.elems,aI.keep (uR 81) hs h.dV,?_⟩;refine ⟨o,ob,cap,fun j=>l.getD j 0,fun _=>.slice none 0 0,fun _=>.slice none 0 0,by rw [List.length_map];exact hv1,by rw [List.length_map];exact hv2,fun j f hj=>?_⟩;have hj:(l.map uA)[j]?=some f:=hj;rw [List.getElem?_map] at hj;obtain ⟨t,ht,rfl⟩:=Option.map_eq_some_iff.1 hj;exact ⟨by show l.getD j 0=t;rw [List.getD_eq_getElem?_getD,ht];rfl,Ut _ _,Uu _ _ 81⟩
 rcases Us hv with ⟨rfl,o,k,rfl⟩|⟨g',ob,k,rfl,hS,vX⟩
 ·exact ⟨g,main g (fun k hk _=>hk.2.2) ⟨o,0,k,rfl,fun h0=>absurd h0 (by simp)⟩⟩
 ·exact ⟨g',main g' (fun k hk hl=>by have:=hS.1;omega) ⟨_,ob,k,rfl,fun _=>⟨rfl,vX,by have:=hS.1;omega⟩⟩⟩
def nV (f:uq 81) (x:List Int × IL 81):uq 81:=⟨f.type,x.1,x.2⟩
def bA (s:ByteArray) (id:Int):mR Sg:=fun st en i=>match id.toNat with
 | 0=>bd (ng s en i) fun _ j=>.ok (st,j)
 | 1=>bd (aV (ku s en) s en i) fun l j=>.ok ({ st with m:={ st.m with types:=l } },j)
 | 2=>bd (aV (jv s en) s en i) fun l j=>.ok ({ st with m:={ st.m with imports:=l } },j)
 | 4=>bd (aV (lX s en) s en i) fun l j=>.ok ({ st with m:={ st.m with tables:=l } },j)
 | 5=>bd (aV (iz s en) s en i) fun l j=>.ok ({ st with m:={ st.m with dU:=l } },j)
 | 6=>bd (aV (jR 81 s en) s en i) fun l j=>.ok ({ st with m:={ st.m with globals:=l } },j)
 | 7=>bd (aV (jw s en) s en i) fun l j=>.ok ({ st with m:={ st.m with exports:=l } },j)
 | 8=>bd (qQ s en i) fun l j=>.ok ({ st with m:={ st.m with start:=l } },j)
 | 9=>bd (aV (lj 81 s en) s en i) fun l j=>.ok ({ st with m:={ st.m with elems:=l } },j)
 | 11=>bd (aV (lq 81 s en) s en i) fun l j=>.ok ({ st with m:={ st.m with dV:=l } },j)
 | 3=>bd (aV (lW s en) s en i) fun l j=>.ok ({ st with m:={ st.m with funcs:=l.map uA } },j)
 | 10=>match gP s en st.m.funcs.length i st.cnt with
  | .ok (fs,j,n)=>.ok (⟨{ st.m with funcs:=List.zipWith nV st.m.funcs fs },st.m.funcs.length,n⟩,j)
  | .error z=>.error z
 | _=>.error 50
end ai
theorem Ud {w0:World} {p:Nat} {s:ByteArray} (hU:∀u,Below w0.heap.size w0 u->iW u):kr w0 p s (MM p) (bA s 0) 0:=by
 intro st c en k i n w hr hM;refine (Ji w0 p s c en k i n w hr hU).mono ?_;intro e w' hx;show iO w0 p s (MM p) en w (bd (ng s en i) fun _ j=>.ok (st,j)) e w';cases hR:ng s en i with
 | error z=>rw [hR] at hx;exact hx
 | ok v =>
  obtain ⟨u,j⟩:=v;rw [hR] at hx;obtain ⟨⟨v,rfl,hv⟩,h1,h2⟩:=hx;have hv:v=.tuple #[]:=hv;subst hv;have hk:=Kp.but h2;exact ⟨rfl,⟨c,k,n,h1,KA p _ _ _ _ _ _ hM hk.1 hk.2⟩,But.t h2⟩
theorem Ue {w0:World} {p:Nat} {s:ByteArray}:kr w0 p s (MM p) (bA s 1) 1:=by
 intro st c en k i n w hr hM;refine (FC w0 p s c en k i n w hr).mono ?_;intro e w' hx;show iO w0 p s (MM p) en w (bd (aV (ku s en) s en i) fun l j=>.ok ({ st with m:={ st.m with types:=l } },j)) e w';cases hR:aV (ku s en) s en i with
 | error z=>rw [hR] at hx;exact hx
 | ok v =>
  obtain ⟨l,j⟩:=v;rw [hR] at hx;obtain ⟨rfl,⟨v,hv,h2⟩,h3⟩:=hx;obtain ⟨g,hG⟩:=hM.2.2.2;obtain ⟨g',hg',hG'⟩:=hG.lt hr.lt;exact ⟨rfl,⟨_,k,n,h2,hM.1,hM.2.1,hM.2.2.1,g',hG'.G9 (Kp.but h3) hr.lt hg' hv⟩,But.t h3⟩
theorem Uf {w0:World} {p:Nat} {s:ByteArray} (hU:∀u,Below w0.heap.size w0 u->iW u):kr w0 p s (MM p) (bA s 2) 2:=by
 intro st c en k i n w hr hM;refine (M9 w0 p s c en k i n w hr hU).mono ?_;intro e w' hx;show iO w0 p s (MM p) en w (bd (aV (jv s en) s en i) fun l j=>.ok ({ st with m:={ st.m with imports:=l } },j)) e w';cases hR:aV (jv s en) s en i with
 | error z=>rw [hR] at hx;exact hx
 | ok v =>
  obtain ⟨l,j⟩:=v;rw [hR] at hx;obtain ⟨rfl,⟨v,hv,h2⟩,h3⟩:=hx;obtain ⟨g,hG⟩:=hM.2.2.2;obtain ⟨g',hg',hG'⟩:=hG.lt hr.lt;exact ⟨rfl,⟨_,k,n,h2,hM.1,hM.2.1,hM.2.2.1,g',hG'.Ha (Kp.but h3) hr.lt hg' hv⟩,But.t h3⟩
theorem Uh {w0:World} {p:Nat} {s:ByteArray}:kr w0 p s (MM p) (bA s 4) 4:=by
 intro st c en k i n w hr hM;refine (Ng w0 p s c en k i n w hr).mono ?_;intro e w' hx;show iO w0 p s (MM p) en w (bd (aV (lX s en) s en i) fun l j=>.ok ({ st with m:={ st.m with tables:=l } },j)) e w';cases hR:aV (lX s en) s en i with
 | error z=>rw [hR] at hx;exact hx
 | ok v =>
  obtain ⟨l,j⟩:=v;rw [hR] at hx;obtain ⟨rfl,⟨v,hv,h2⟩,h3⟩:=hx;obtain ⟨g,hG⟩:=hM.2.2.2;obtain ⟨g',hg',hG'⟩:=hG.lt hr.lt;exact ⟨rfl,⟨_,k,n,h2,hM.1,hM.2.1,hM.2.2.1,g',hG'.Hb (Kp.but h3) hr.lt hg' hv⟩,But.t h3⟩
theorem Ui {w0:World} {p:Nat} {s:ByteArray}:kr w0 p s (MM p) (bA s 5) 5:=by
 intro st c en k i n w hr hM;refine (Ni w0 p s c en k i n w hr).mono ?_;intro e w' hx;show iO w0 p s (MM p) en w (bd (aV (iz s en) s en i) fun l j=>.ok ({ st with m:={ st.m with dU:=l } },j)) e w';cases hR:aV (iz s en) s en i with
 | error z=>rw [hR] at hx;exact hx
 | ok v =>
  obtain ⟨l,j⟩:=v;rw [hR] at hx;obtain ⟨rfl,⟨v,hv,h2⟩,h3⟩:=hx;obtain ⟨g,hG⟩:=hM.2.2.2;obtain ⟨g',hg',hG'⟩:=hG.lt hr.lt;exact ⟨rfl,⟨_,k,n,h2,hM.1,hM.2.1,hM.2.2.1,g',hG'.Hd (Kp.but h3) hr.lt hg' hv⟩,But.t h3⟩
theorem Uj {w0:World} {p:Nat} {s:ByteArray}:kr w0 p s (MM p) (bA s 6) 6:=by
 intro st c en k i n w hr hM;refine (Nk w0 p s c en k i n w hr 81).mono ?_;intro e w' hx;show iO w0 p s (MM p) en w (bd (aV (jR 81 s en) s en i) fun l j=>.ok ({ st with m:={ st.m with globals:=l } },j)) e w';cases hR:aV (jR 81 s en) s en i with
 | error z=>rw [hR] at hx;exact hx
 | ok v =>
  obtain ⟨l,j⟩:=v;rw [hR] at hx;obtain ⟨rfl,⟨v,hv,h2⟩,h3⟩:=hx;obtain ⟨g,hG⟩:=hM.2.2.2;obtain ⟨g',hg',hG'⟩:=hG.lt hr.lt;exact ⟨rfl,⟨_,k,n,h2,hM.1,hM.2.1,hM.2.2.1,g',hG'.He (Kp.but h3) hr.lt hg' hv⟩,But.t h3⟩
theorem Uk {w0:World} {p:Nat} {s:ByteArray} (hU:∀u,Below w0.heap.size w0 u->iW u):kr w0 p s (MM p) (bA s 7) 7:=by
 intro st c en k i n w hr hM;refine (Nn w0 p s c en k i n w hr hU).mono ?_;intro e w' hx;show iO w0 p s (MM p) en w (bd (aV (jw s en) s en i) fun l j=>.ok ({ st with m:={ st.m with exports:=l } },j)) e w';cases hR:aV (jw s en) s en i with
 | error z=>rw [hR] at hx;exact hx
 | ok v =>
  obtain ⟨l,j⟩:=v;rw [hR] at hx;obtain ⟨rfl,⟨v,hv,h2⟩,h3⟩:=hx;obtain ⟨g,hG⟩:=hM.2.2.2;obtain ⟨g',hg',hG'⟩:=hG.lt hr.lt;exact ⟨rfl,⟨_,k,n,h2,hM.1,hM.2.1,hM.2.2.1,g',hG'.Hf (Kp.but h3) hr.lt hg' hv⟩,But.t h3⟩
theorem Ul {w0:World} {p:Nat} {s:ByteArray}:kr w0 p s (MM p) (bA s 8) 8:=by
 intro st c en k i n w hr hM;refine (R8 w0 p s c en k i n w hr).mono ?_;intro e w' hx;show iO w0 p s (MM p) en w (bd (qQ s en i) fun l j=>.ok ({ st with m:={ st.m with start:=l } },j)) e w';cases hR:qQ s en i with
 | error z=>rw [hR] at hx;exact hx
 | ok v =>
  obtain ⟨l,j⟩:=v;rw [hR] at hx;obtain ⟨rfl,⟨v,hv,h2⟩,h3⟩:=hx;obtain ⟨g,hG⟩:=hM.2.2.2;obtain ⟨g',hg',hG'⟩:=hG.lt hr.lt;exact ⟨rfl,⟨_,k,n,h2,hM.1,hM.2.1,hM.2.2.1,g',hG'.Hk (Kp.but h3) hr.lt hg' hv⟩,But.t h3⟩
theorem Um {w0:World} {p:Nat} {s:ByteArray}:kr w0 p s (MM p) (bA s 9) 9:=by
 intro st c en k i n w hr hM;refine (Nq w0 p s c en k i n w hr 81).mono ?_;intro e w' hx;show iO w0 p s (MM p) en w (bd (aV (lj 81 s en) s en i) fun l j=>.ok ({ st with m:={ st.m with elems:=l } },j)) e w';cases hR:aV (lj 81 s en) s en i with
 | error z=>rw [hR] at hx;exact hx
 | ok v =>
  obtain ⟨l,j⟩:=v;rw [hR] at hx;obtain ⟨rfl,⟨v,hv,h2⟩,h3⟩:=hx;obtain ⟨g,hG⟩:=hM.2.2.2;obtain ⟨g',hg',hG'⟩:=hG.lt hr.lt;exact ⟨rfl,⟨_,k,n,h2,hM.1,hM.2.1,hM.2.2.1,g',hG'.Hg (Kp.but h3) hr.lt hg' hv⟩,But.t h3⟩
theorem Un {w0:World} {p:Nat} {s:ByteArray}:kr w0 p s (MM p) (bA s 11) 11:=by
 intro st c en k i n w hr hM;refine (Ns w0 p s c en k i n w hr 81).mono ?_;intro e w' hx;show iO w0 p s (MM p) en w (bd (aV (lq 81 s en) s en i) fun l j=>.ok ({ st with m:={ st.m with dV:=l } },j)) e w';cases hR:aV (lq 81 s en) s en i with
 | error z=>rw [hR] at hx;exact hx
 | ok v =>
  obtain ⟨l,j⟩:=v;rw [hR] at hx;obtain ⟨rfl,⟨v,hv,h2⟩,h3⟩:=hx;obtain ⟨g,hG⟩:=hM.2.2.2;obtain ⟨g',hg',hG'⟩:=hG.lt hr.lt;exact ⟨rfl,⟨_,k,n,h2,hM.1,hM.2.1,hM.2.2.1,g',hG'.Hh (Kp.but h3) hr.lt hg' hv⟩,But.t h3⟩
theorem Ug {w0:World} {p:Nat} {s:ByteArray}:kr w0 p s (MM p) (bA s 3) 3:=by
 intro st c en k i n w hr hM;refine (Nc w0 p s c en k i n w hr).mono ?_;intro e w' hx;show iO w0 p s (MM p) en w (bd (aV (lW s en) s en i) fun l j=>.ok ({ st with m:={ st.m with funcs:=l.map uA } },j)) e w';cases hR:aV (lW s en) s en i with
 | error z=>rw [hR] at hx;exact hx
 | ok v =>
  obtain ⟨l,j⟩:=v;rw [hR] at hx;obtain ⟨rfl,⟨v,hv,h2⟩,h3⟩:=hx;obtain ⟨g,hG⟩:=hM.2.2.2;obtain ⟨g',hG'⟩:=hG.Hj (Kp.but h3) hr.lt hv;exact ⟨rfl,⟨_,k,n,h2,hM.1,hM.2.1,hM.2.2.1,g',hG'⟩,But.t h3⟩
end Go.Proofs.YtegboefdolfdgaaGreatDoor
namespace Go.Proofs.YtegboefdolfdgaaGreatDoor
open Go.RowKit aA
set_option linter.unusedVariables false
namespace af
def Db (ops:Array Oper) (n:Nat):Bool:=decide (ops.size=n) && (List.range ops.size).all (fun i=>(il ops i).all (fun j=>decide (j<i)))
def yf (ops:Array Oper) (n:Nat) (dst:Nat->Nat) (size:Nat):Bool :=
 (List.range n).all fun i=>match ops[i]? with
  | some o=>o.dst == some (dst i) && decide (dst i<size)
  | none=>false
theorem Dc {ops:Array Oper} {n:Nat} {dst:Nat->Nat} {size:Nat} (h:yf ops n dst size=true):∀i,i<n->∃o,ops[i]?=some o/\o.dst=some (dst i)/\dst i<size:=fun i hi=>by
 unfold yf at h
 have:=(List.all_eq_true.1 h) i (List.mem_range.2 hi)
 cases ho:ops[i]? with
 | none=>rw [ho] at this;cases this
 | some o =>
  rw [ho] at this;simp only [Bool.and_eq_true,beq_iff_eq,decide_eq_true_eq] at this;exact ⟨o,rfl,this.1,this.2⟩
theorem Pw {a:Act} {k:Nat} {b:Bool} (h:a.eval (.tmp k)=.bool b):a.tmps[k]?=some (.bool b):=by
 have h':=ax h;cases hk:a.tmps[k]? with
 | none=>rw [hk] at h';exact absurd h' (by simp [undef])
 | some v=>rw [hk] at h';exact congrArg some h'
theorem wants {ops:Array Oper} {o oj:Oper} {a:Act} {j k:Nat} {b want:Bool} (hg:o.guard=some (j,want)) (hj:ops[j]?=some oj) (hd:oj.dst=some k) (h:a.eval (.tmp k)=.bool b):Region.wanted o (yielded ops a.tmps)=(b == want):=by
 have hy:yielded ops a.tmps j=some b:=by
  unfold yielded;rw [hj]
  have:((some oj).bind (·.dst)).bind (a.tmps[·]?)=some (.bool b):=by
   show (oj.dst).bind (a.tmps[·]?)=_;rw [hd];exact Pw h
  rw [this]
 unfold Region.wanted;rw [hg];show (yielded ops a.tmps j == some want)=_;rw [hy];cases b<;>cases want<;>rfl
section
variable {P:Program} {ops:Array Oper} {Q:Exit->Act->World->Prop} {id:Nat} {a0:Act} {w0:World}
def Does (P:Program) (ops:Array Oper) (Q:Exit->Act->World->Prop) (p:Value->World->Prop) (o:Oper) (a:Act) (w:World):Prop :=
 (Region.wanted o (yielded ops a.tmps)=true/\o.wp P a w (fun a' w'=>∃v,a'=a.put o.dst v/\Below w.heap.size w w'/\p v w') Q)\/(Region.wanted o (yielded ops a.tmps)=false/\p undef w)
theorem Does.go {p:Value->World->Prop} {o:Oper} {a:Act} {w:World} (hg:o.guard=none) (h:o.wp P a w (fun a' w'=>∃v,a'=a.put o.dst v/\Below w.heap.size w w'/\p v w') Q):Does P ops Q p o a w:=.inl ⟨by simp [Region.wanted,hg],h⟩
theorem Does.wanted {p:Value->World->Prop} {o oj:Oper} {a:Act} {w:World} {j k:Nat} {b:Bool} (hg:o.guard=some (j,b)) (hj:ops[j]?=some oj) (hd:oj.dst=some k) (hb:a.eval (.tmp k)=.bool b) (h:o.wp P a w (fun a' w'=>∃v,a'=a.put o.dst v/\Below w.heap.size w w'/\p v w') Q):Does P ops Q p o a w :=
 .inl ⟨by rw [wants hg hj hd hb];cases b<;>rfl,h⟩
theorem Does.skip {p:Value->World->Prop} {o oj:Oper} {a:Act} {w:World} {j k:Nat} {b:Bool} (hg:o.guard=some (j,b)) (hj:ops[j]?=some oj) (hd:oj.dst=some k) (hb:a.eval (.tmp k)=.bool (!b)) (h:p undef w):Does P ops Q p o a w :=
 .inr ⟨by rw [wants hg hj hd hb];cases b<;>rfl,h⟩
theorem Does.op {p:Value->World->Prop} {o:Oper} {a:Act} {w:World} {K:Act->World->Prop} (h:Does P ops Q p o a w) (hK:∀v w',Below w.heap.size w w'->p v w'->K (a.put o.dst v) w') :
  if Region.wanted o (yielded ops a.tmps) then o.wp P a w K Q\/(o.asks P a w/\LetsOut Q) else K (a.put o.dst undef) w:=by
 rcases h with ⟨hw,h⟩|⟨hw,h⟩
 ·rw [if_pos hw];exact .inl (Oper.wp_mono (fun a' w' ⟨v,ha,hb,hp⟩=>by subst ha;exact hK v w' hb hp) h)
 ·rw [if_neg (by rw [hw];simp)];exact hK undef w (Below.refl _ _) h
theorem Px (n:Nat) (dst:Nat->Nat) (G:Nat->Value->World->Prop) (hm:P.follows .mixedOrders=true) (hT:Db ops n=true)
  (hinj:∀i j,i<n->j<n->dst i=dst j->i=j)
  (hdst:∀i,i<n->∃o,ops[i]?=some o/\o.dst=some (dst i)/\dst i<a0.tmps.size)
  (lC:∀i v w w',i<n->G i v w->Below w.heap.size w w'->G i v w')
  (hstep:∀i o a w,i<n->ops[i]?=some o->Fr a0 dst n a->Below w0.heap.size w0 w->(∀j ∈ deps o,G j (a.eval (.tmp (dst j))) w)->Does P ops Q (G i) o a w)
  (hend:∀a w,Fr a0 dst n a->Below w0.heap.size w0 w->(∀i,i<n->G i (a.eval (.tmp (dst i))) w)->Q .normal a w) :
  (Code.region id ops true).wp P Q a0 w0:=by
 unfold Db at hT;rw [Bool.and_eq_true,decide_eq_true_eq,List.all_eq_true] at hT;obtain ⟨hn,hT⟩:=hT;have hlow:∀i,i<ops.size->∀j ∈ il ops i,j<i:=fun i hi j hj=>of_decide_eq_true ((List.all_eq_true.1 (hT i (List.mem_range.2 hi))) j hj);refine xw (fun L a w=>L.size=ops.size/\Fr a0 dst n a/\Below w0.heap.size w0 w/\∀i,i<n->L.getD i false=true->G i (a.eval (.tmp (dst i))) w) hm ?_ ?_ ?_
 ·rintro L i a w hi ⟨hsz,hF,hB,hG⟩;obtain ⟨qI,o,ho,hd⟩:=xx hi;obtain ⟨dW,iK⟩:=xy qI;have hin:i<n:=by omega
  obtain ⟨o',ho',ja,hos⟩:=hdst i hin
  have:o'=o:=by rw [ho] at ho';exact (Option.some.inj ho').symm
  subst this;have hs:=hstep i o' a w hin ho hF hB (fun j hj=>hG j (by have:=hlow i (by omega) j (by rw [oG ho];exact hj);omega) (hd j hj));unfold wpOp;rw [ho];refine hs.op fun v w' hBw qw=>?_;have rA:dst i<a.tmps.size:=by rw [hF.size];exact hos
  refine ⟨by rw [Array.size_setIfInBounds,hsz],by rw [ja];exact hF.put hin v,hB.trans (hBw.mono hB.size),fun j hj iD=>?_⟩;rw [ja];by_cases he:j=i
  ·subst he;rw [um v rA];exact qw
  ·rw [fN L i _ dW,if_neg he] at iD;rw [pW v (fun e=>he (hinj i j hin hj e).symm)];exact lC j _ w w' hj (hG j hj iD) hBw
 ·rintro L a w hr ⟨hsz,hF,hB,hG⟩;refine hend a w hF hB fun i hi=>hG i hi ?_
  have key:∀k,k<ops.size->L.getD k false=true:=by
   intro k
   induction k using Nat.strongRecOn with
   | _ k ih =>
    intro hk;cases hL:L.getD k false with
    | true=>rfl
    | false =>
     obtain ⟨o,ho⟩:∃o,ops[k]?=some o:=⟨_,Array.getElem?_eq_getElem hk⟩
     have hm:k ∈ Region.ready .any ops L:=by
      refine Gw ho ?_ fun j hj=>?_
      ·have:k<L.size:=by omega
       simp only [Array.getD,this] at hL ⊢;exact hL
      ·have hj':j ∈ il ops k:=by rw [oG ho];exact hj
       have:=hlow k hk j hj'
       exact ih j this (by omega)
     rw [hr] at hm;cases hm
  exact key i (by omega)
 ·have hf:∀k,(Array.replicate ops.size false).getD k false=false:=fun k=>by
   simp [Array.getD]
  refine ⟨by simp,⟨rfl,rfl,fun _ _=>rfl⟩,⟨rfl,rfl,rfl,Nat.le_refl _,fun _ _=>rfl⟩,fun i _ hL=>?_⟩;rw [hf] at hL;cases hL
theorem Gx (n:Nat) (dst:Nat->Nat) (G:Nat->Value->World->Prop) (hn:n<=ops.size)
  (hinj:∀i j,i<n->j<n->dst i=dst j->i=j)
  (hdst:∀i,i<n->∃o,ops[i]?=some o/\o.dst=some (dst i)/\dst i<a0.tmps.size)
  (lC:∀i v w w',i<n->G i v w->Below w.heap.size w w'->G i v w')
  (hstep:∀i o a w,i<n->ops[i]?=some o->Fr a0 dst n a->Below w0.heap.size w0 w->(∀j ∈ List.range i,G j (a.eval (.tmp (dst j))) w)->Does P ops Q (G i) o a w)
  (fL:∀a w,Fr a0 dst n a->Below w0.heap.size w0 w->(∀i,i<n->G i (a.eval (.tmp (dst i))) w)->wpList P ops Q (ops.toList.drop n) a w) :
  (Code.region id ops false).wp P Q a0 w0:=by
 have key:∀r k,k+r=n->∀a w,Fr a0 dst n a->Below w0.heap.size w0 w->(∀j,j<k->G j (a.eval (.tmp (dst j))) w)->wpList P ops Q (ops.toList.drop k) a w:=by
  intro r
  induction r with
  | zero =>
   intro k hk a w hF hB hG;obtain rfl:k=n:=by omega
   exact fL a w hF hB hG
  | succ r ih =>
   intro k hk a w hF hB hG;have hkn:k<n:=by omega
   obtain ⟨o,ho,ja,hos⟩:=hdst k hkn;have hks:k<ops.size:=by omega
   have qH:ops.toList.drop k=o :: ops.toList.drop (k+1):=by
    rw [List.drop_eq_getElem_cons (by simpa using hks)];congr 1
    have:=Array.getElem?_eq_getElem hks
    rw [ho] at this;simpa using (Option.some.inj this).symm
   rw [qH];unfold wpList;refine (hstep k o a w hkn ho hF hB fun j hj=>hG j (List.mem_range.1 hj)).op fun v w' hBw qw=>?_;have rA:dst k<a.tmps.size:=by rw [hF.size];exact hos
   refine ih (k+1) (by omega) _ w' (by rw [ja];exact hF.put hkn v) (hB.trans (hBw.mono hB.size)) fun j hj=>?_;rw [ja];by_cases he:j=k
   ·subst he;rw [um v rA];exact qw
   ·rw [pW v (fun e=>he (hinj k j hkn (by omega) e).symm)];exact lC j _ w w' (by omega) (hG j (by omega)) hBw
 refine wp_region_list ?_
 have:=key n 0 (by omega) a0 w0 ⟨rfl,rfl,fun _ _=>rfl⟩ (Below.refl _ _) (fun j hj=>absurd hj (by omega))
 rwa [List.drop_zero] at this
end
end af
end Go.Proofs.YtegboefdolfdgaaGreatDoor
