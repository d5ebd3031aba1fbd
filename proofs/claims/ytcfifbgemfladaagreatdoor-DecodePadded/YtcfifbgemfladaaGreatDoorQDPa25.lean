/- Texts that the claim needs. -/
import Derived.Test.YtcfifbgemfladaaGreatDoorQDPa23
import Derived.Test.YtcfifbgemfladaaGreatDoorQDPa24
namespace Go.Proofs.YtcfifbgemfladaaGreatDoor
open Go.RowKit au aI
set_option linter.unusedVariables false
namespace aI
structure Sg where
 m:Mod 81
 codes:Nat
 cnt:Nat
def Sm (p g:Nat) (w:AG) (k:Nat):Prop:=p<k/\k<w.heap.size/\k≠g
structure MG (p g:Nat) (m:Mod 81) (c:Nat->Value) (w:AG):Prop where
 types:aR 2 Al w (Sm p g w) (c 0) m.types
 imports:aR 3 Ao w (Sm p g w) (c 1) m.imports
 tables:aR 3 uF w (Sm p g w) (c 3) m.tables
 aF:aR 3 uF w (Sm p g w) (c 4) m.aF
 globals:aR 9 (Av 81) w (Sm p g w) (c 5) m.globals
 exports:aR 3 Ar w (Sm p g w) (c 6) m.exports
 start:aR 1 Fc w (Sm p g w) (c 7) m.start
 elems:aR 8 (Ay 81) w (Sm p g w) (c 8) m.elems
 aA:aR 8 (AA 81) w (Sm p g w) (c 9) m.aA
 funcs:∃(o:Option Addr) (ob cap:Nat) (ty:Nat->Int) (a b:Nat->Value),c 2=.slice o m.funcs.length cap/\(0<m.funcs.length->o=some ⟨g,ob,none⟩/\FB g ob m.funcs.length ty a b w/\p<g)/\∀j f,m.funcs[j]?=some f->ty j=f.type/\aU w (Sm p g w) (a j) f.locals/\az w (Sm p g w) 81 (b j) f.body
def MM (p:Nat) (st:Sg) (c:Nat->Value) (k n:Nat) (w:AG):Prop:=k=st.codes/\n=st.cnt/\n<=65536/\∃g,MG p g st.m c w
def Kp (p:Nat) (w w':AG):Prop:=(∀b,p<b->b<w.heap.size->w'.heap[b]?=w.heap[b]?)/\w.heap.size<=w'.heap.size
theorem Kp.sm {p g:Nat} {w w':AG} (h:Kp p w w'):∀k,Sm p g w k->Sm p g w' k/\w'.heap[k]?=w.heap[k]?:=λk hk=>⟨⟨hk.1,jg hk.2.1 h.2,hk.2.2⟩,h.1 k hk.1 hk.2.1⟩
theorem Kp.but {p:Nat} {w w':AG} (h:But p w w'):Kp p w w':=⟨λb hb hl=>h.block b hl (by simp;omega),h.size⟩
theorem MG.keep {p g:Nat} {m:Mod 81} {c:Nat->Value} {w w':AG} (h:MG p g m c w) (hk:Kp p w w'):MG p g m c w' where
 types:=aR.keep Ak hk.sm h.types
 imports:=aR.keep Am hk.sm h.imports
 tables:=aR.keep rP hk.sm h.tables
 aF:=aR.keep rP hk.sm h.aF
 globals:=aR.keep (Au 81) hk.sm h.globals
 exports:=aR.keep Aq hk.sm h.exports
 start:=aR.keep AY hk.sm h.start
 elems:=aR.keep (Aw 81) hk.sm h.elems
 aA:=aR.keep (Az 81) hk.sm h.aA
 funcs:=by
  obtain ⟨o,ob,cap,ty,a,b,h1,h2,h3⟩:=h.funcs;exact ⟨o,ob,cap,ty,a,b,h1,λh0=>⟨(h2 h0).1,(h2 h0).2.1.keep (hk.1 g (h2 h0).2.2 (h2 h0).2.1.lt),(h2 h0).2.2⟩,λj f hj=>⟨(h3 j f hj).1,(h3 j f hj).2.1.keep hk.sm,az.keep hk.sm _ _ _ (h3 j f hj).2.2⟩⟩
theorem Ty (p:Nat):DY p (MM p):=λst c k n w w' ⟨h1,h2,h3,g,h4⟩ hb hs=>⟨h1,h2,h3,g,h4.keep ⟨hb,hs⟩⟩
theorem vH {p g:Nat} {w w':AG} (hp:p<w.heap.size) (hg:g<w.heap.size):∀k,Since w.heap.size w' none k->Sm p g w' k/\w'.heap[k]?=w'.heap[k]?:=λk hk=>⟨⟨by have:=hk.1;omega,hk.2.1,by have:=hk.1;omega⟩,rfl⟩
theorem MG.lt {p g:Nat} {m:Mod 81} {c:Nat->Value} {w:AG} (h:MG p g m c w) (hp:p<w.heap.size):∃g',g'<w.heap.size/\MG p g' m c w:=by
 by_cases hg:g<w.heap.size
 ·exact ⟨g,hg,h⟩
 have hs:∀k,Sm p g w k->Sm p p w k/\w.heap[k]?=w.heap[k]?:=λk hk=>⟨⟨hk.1,hk.2.1,by have:=hk.1;omega⟩,rfl⟩;refine ⟨p,hp,⟨aR.keep Ak hs h.types,aR.keep Am hs h.imports,aR.keep rP hs h.tables,aR.keep rP hs h.aF,aR.keep (Au 81) hs h.globals,aR.keep Aq hs h.exports,aR.keep AY hs h.start,aR.keep (Aw 81) hs h.elems,aR.keep (Az 81) hs h.aA,?_⟩⟩;obtain ⟨o,ob,cap,ty,a,b,h1,h2,h3⟩:=h.funcs;refine ⟨o,ob,cap,ty,a,b,h1,λh0=>absurd (h2 h0).2.1.lt hg,λj f hj=>?_⟩;have hj0:j<m.funcs.length:=(gq.1 hj).1;exact absurd (h2 (by omega)).2.1.lt hg
theorem MG.aeQ {p g:Nat} {m:Mod 81} {c:Nat->Value} {w w':AG} (h:MG p g m c w) (hk:Kp p w w') (hp:p<w.heap.size) (hg:g<w.heap.size) {v:Value} {l:List _} (hv:aR 2 Al w' (Since w.heap.size w' none) v l):MG p g { m with types:=l } (upd c 0 v) w' :=
 { h.keep hk with types:=aR.keep Ak (vH hp hg) hv }
theorem MG.aeR {p g:Nat} {m:Mod 81} {c:Nat->Value} {w w':AG} (h:MG p g m c w) (hk:Kp p w w') (hp:p<w.heap.size) (hg:g<w.heap.size) {v:Value} {l:List _} (hv:aR 3 Ao w' (Since w.heap.size w' none) v l):MG p g { m with imports:=l } (upd c 1 v) w' :=
 { h.keep hk with imports:=aR.keep Am (vH hp hg) hv }
theorem MG.aeS {p g:Nat} {m:Mod 81} {c:Nat->Value} {w w':AG} (h:MG p g m c w) (hk:Kp p w w') (hp:p<w.heap.size) (hg:g<w.heap.size) {v:Value} {l:List _} (hv:aR 3 uF w' (Since w.heap.size w' none) v l):MG p g { m with tables:=l } (upd c 3 v) w' :=
 { h.keep hk with tables:=aR.keep rP (vH hp hg) hv }
theorem MG.aeT {p g:Nat} {m:Mod 81} {c:Nat->Value} {w w':AG} (h:MG p g m c w) (hk:Kp p w w') (hp:p<w.heap.size) (hg:g<w.heap.size) {v:Value} {l:List _} (hv:aR 3 uF w' (Since w.heap.size w' none) v l):MG p g { m with aF:=l } (upd c 4 v) w' :=
 { h.keep hk with aF:=aR.keep rP (vH hp hg) hv }
theorem MG.aeU {p g:Nat} {m:Mod 81} {c:Nat->Value} {w w':AG} (h:MG p g m c w) (hk:Kp p w w') (hp:p<w.heap.size) (hg:g<w.heap.size) {v:Value} {l:List _} (hv:aR 9 (Av 81) w' (Since w.heap.size w' none) v l):MG p g { m with globals:=l } (upd c 5 v) w' :=
 { h.keep hk with globals:=aR.keep (Au 81) (vH hp hg) hv }
theorem MG.aeV {p g:Nat} {m:Mod 81} {c:Nat->Value} {w w':AG} (h:MG p g m c w) (hk:Kp p w w') (hp:p<w.heap.size) (hg:g<w.heap.size) {v:Value} {l:List _} (hv:aR 3 Ar w' (Since w.heap.size w' none) v l):MG p g { m with exports:=l } (upd c 6 v) w' :=
 { h.keep hk with exports:=aR.keep Aq (vH hp hg) hv }
theorem MG.aeW {p g:Nat} {m:Mod 81} {c:Nat->Value} {w w':AG} (h:MG p g m c w) (hk:Kp p w w') (hp:p<w.heap.size) (hg:g<w.heap.size) {v:Value} {l:List _} (hv:aR 1 Fc w' (Since w.heap.size w' none) v l):MG p g { m with start:=l } (upd c 7 v) w' :=
 { h.keep hk with start:=aR.keep AY (vH hp hg) hv }
theorem MG.aeX {p g:Nat} {m:Mod 81} {c:Nat->Value} {w w':AG} (h:MG p g m c w) (hk:Kp p w w') (hp:p<w.heap.size) (hg:g<w.heap.size) {v:Value} {l:List _} (hv:aR 8 (Ay 81) w' (Since w.heap.size w' none) v l):MG p g { m with elems:=l } (upd c 8 v) w' :=
 { h.keep hk with elems:=aR.keep (Aw 81) (vH hp hg) hv }
theorem MG.aeY {p g:Nat} {m:Mod 81} {c:Nat->Value} {w w':AG} (h:MG p g m c w) (hk:Kp p w w') (hp:p<w.heap.size) (hg:g<w.heap.size) {v:Value} {l:List _} (hv:aR 8 (AA 81) w' (Since w.heap.size w' none) v l):MG p g { m with aA:=l } (upd c 9 v) w' :=
 { h.keep hk with aA:=aR.keep (Az 81) (vH hp hg) hv }
theorem aeZ {w:AG} {S:Nat->Prop} {v:Value} {l:List Int} (h:aR 3 Ap w S v l):(l = []/\∃o k,v=.slice o 0 k)\/∃g ob k,v=.slice (some ⟨g,ob,none⟩) l.length k/\S g/\FB g ob l.length (λj=>l.getD j 0) (λ_=>.slice none 0 0) (λ_=>.slice none 0 0) w:=by
 rcases h.2 with ⟨rfl,o,k,rfl⟩|⟨g,ob,k,rfl,hx⟩
 ·exact .inl ⟨rfl,o,k,rfl⟩
 cases l with
 | nil=>exact .inl ⟨rfl,_,_,rfl⟩
 | cons x0 r =>
  obtain ⟨hS,⟨cur,TG⟩,_⟩:=hx 0 x0 rfl;refine .inr ⟨g,ob,k,rfl,hS,cur,TG,λj hj=>?_⟩;obtain ⟨_,_,h1,h2,h3⟩:=hx j ((x0 :: r)[j]'hj) (bG hj);unfold World.cell? at h1 h2 h3;rw [TG] at h1 h2 h3;have e:(x0 :: r).getD j 0=(x0 :: r)[j]:=by rw [List.getD_eq_getElem?_getD,bG hj];rfl
  exact ⟨by show _=some (Value.int .i64 ((x0 :: r).getD j 0));rw [e];exact h1,h2,h3⟩
theorem ae0 (w:AG) (S:Nat->Prop):aU w S (.slice none 0 0) []:=⟨by simp,.inl ⟨rfl,none,0,rfl⟩⟩
theorem ae1 (w:AG) (S:Nat->Prop):∀d,az w S d (.slice none 0 0) (none_ d)
 | 0=>⟨none,0,rfl⟩
 | d+1=>⟨by simp [none_],.inl ⟨rfl,none,0,rfl⟩⟩
def yp (t:Int):fF 81:=⟨t,[],none_ 81⟩
theorem MG.ae2 {p g:Nat} {m:Mod 81} {c:Nat->Value} {w w':AG} (h:MG p g m c w) (hk:Kp p w w') (hp:p<w.heap.size) {v:Value} {l:List Int} (hv:aR 3 Ap w' (Since w.heap.size w' none) v l):∃g',MG p g' { m with funcs:=l.map yp } (upd c 2 v) w':=by
 have main:∀g',(∀k,Sm p g w' k->k<w.heap.size->k≠g')->(∃o ob cap,v=.slice o l.length cap/\(0<l.length->o=some ⟨g',ob,none⟩/\FB g' ob l.length (λj=>l.getD j 0) (λ_=>.slice none 0 0) (λ_=>.slice none 0 0) w'/\p<g'))->MG p g' { m with funcs:=l.map yp } (upd c 2 v) w':=by
  intro g' hg' ⟨o,ob,cap,hv1,hv2⟩
  have hs:∀k,Sm p g w k->Sm p g' w' k/\w'.heap[k]?=w.heap[k]?:=λk hk'=>by
   obtain ⟨a1,a2⟩:=hk.sm k hk';exact ⟨⟨a1.1,a1.2.1,hg' k a1 hk'.2.1⟩,a2⟩
  refine ⟨aR.keep Ak hs h.types,aR.keep Am hs h.imports,aR.keep rP hs h.tables,aR.keep rP hs h.aF,aR.keep (Au 81) hs h.globals,aR.keep Aq hs h.exports,aR.keep AY hs h.start,aR.keep (Aw 81) hs h.elems,aR.keep (Az 81) hs h.aA,?_⟩;refine ⟨o,ob,cap,λj=>l.getD j 0,λ_=>.slice none 0 0,λ_=>.slice none 0 0,by rw [jS];exact hv1,by rw [jS];exact hv2,λj f hj=>?_⟩;have hj:(l.map yp)[j]?=some f:=hj;rw [List.getElem?_map] at hj;obtain ⟨t,ht,rfl⟩:=Option.map_eq_some_iff.1 hj;exact ⟨by show l.getD j 0=t;rw [List.getD_eq_getElem?_getD,ht];rfl,ae0 _ _,ae1 _ _ 81⟩
 rcases aeZ hv with ⟨rfl,o,k,rfl⟩|⟨g',ob,k,rfl,hS,JD⟩
 ·exact ⟨g,main g (λk hk _=>hk.2.2) ⟨o,0,k,rfl,λh0=>absurd h0 (by simp)⟩⟩
 exact ⟨g',main g' (λk hk hl=>by have:=hS.1;omega) ⟨_,ob,k,rfl,λ_=>⟨rfl,JD,by have:=hS.1;omega⟩⟩⟩
def vG (f:fF 81) (x:List Int × IL 81):fF 81:=⟨f.type,x.1,x.2⟩
def mb (s:AH) (id:Int):rO Sg:=λst en i=>match id.toNat with
 | 0=>bd (yj s en i) λ_ j=>.ok (st,j)
 | 1=>bd (bB (ni s en) s en i) λl j=>.ok ({ st with m:={ st.m with types:=l } },j)
 | 2=>bd (bB (nR s en) s en i) λl j=>.ok ({ st with m:={ st.m with imports:=l } },j)
 | 4=>bd (bB (qy s en) s en i) λl j=>.ok ({ st with m:={ st.m with tables:=l } },j)
 | 5=>bd (bB (kK s en) s en i) λl j=>.ok ({ st with m:={ st.m with aF:=l } },j)
 | 6=>bd (bB (oK 81 s en) s en i) λl j=>.ok ({ st with m:={ st.m with globals:=l } },j)
 | 7=>bd (bB (nS s en) s en i) λl j=>.ok ({ st with m:={ st.m with exports:=l } },j)
 | 8=>bd (zE s en i) λl j=>.ok ({ st with m:={ st.m with start:=l } },j)
 | 9=>bd (bB (oM 81 s en) s en i) λl j=>.ok ({ st with m:={ st.m with elems:=l } },j)
 | 11=>bd (bB (oO 81 s en) s en i) λl j=>.ok ({ st with m:={ st.m with aA:=l } },j)
 | 3=>bd (bB (qO s en) s en i) λl j=>.ok ({ st with m:={ st.m with funcs:=l.map yp } },j)
 | 10=>match qU s en st.m.funcs.length i st.cnt with
  | .ok (fs,j,n)=>.ok (⟨{ st.m with funcs:=List.zipWith vG st.m.funcs fs },st.m.funcs.length,n⟩,j)
  | .error z=>.error z
 | _=>.error 50
end aI
theorem aev {w0:AG} {p:Nat} {s:AH} (hU:∀u,AS w0 u->mI u):oJ w0 p s (MM p) (mb s 0) 0:=by
 intro st c en k i n w hr hM;refine (Rx w0 p s c en k i n w hr hU).mono ?_;intro e w' hx;show lY w0 p s (MM p) en w (bd (yj s en i) λ_ j=>.ok (st,j)) e w';cases hR:yj s en i with
 | error z=>rw [hR] at hx;exact hx
 | ok v =>
  obtain ⟨u,j⟩:=v;rw [hR] at hx;obtain ⟨⟨v,rfl,hv⟩,h1,h2⟩:=hx;have hv:v=.tuple #[]:=hv;subst hv;have hk:=Kp.but h2;exact ⟨rfl,⟨c,k,n,h1,Ty p _ _ _ _ _ _ hM hk.1 hk.2⟩,But.t h2⟩
theorem aew {w0:AG} {p:Nat} {s:AH}:oJ w0 p s (MM p) (mb s 1) 1:=by
 intro st c en k i n w hr hM;refine (Na w0 p s c en k i n w hr).mono ?_;intro e w' hx;show lY w0 p s (MM p) en w (bd (bB (ni s en) s en i) λl j=>.ok ({ st with m:={ st.m with types:=l } },j)) e w';cases hR:bB (ni s en) s en i with
 | error z=>rw [hR] at hx;exact hx
 | ok v =>
  obtain ⟨l,j⟩:=v;rw [hR] at hx;obtain ⟨rfl,⟨v,hv,h2⟩,h3⟩:=hx;obtain ⟨g,hG⟩:=hM.2.2.2;obtain ⟨g',hg',hG'⟩:=hG.lt hr.lt;exact ⟨rfl,⟨_,k,n,h2,hM.1,hM.2.1,hM.2.2.1,g',hG'.aeQ (Kp.but h3) hr.lt hg' hv⟩,But.t h3⟩
theorem aex {w0:AG} {p:Nat} {s:AH} (hU:∀u,AS w0 u->mI u):oJ w0 p s (MM p) (mb s 2) 2:=by
 intro st c en k i n w hr hM;refine (V4 w0 p s c en k i n w hr hU).mono ?_;intro e w' hx;show lY w0 p s (MM p) en w (bd (bB (nR s en) s en i) λl j=>.ok ({ st with m:={ st.m with imports:=l } },j)) e w';cases hR:bB (nR s en) s en i with
 | error z=>rw [hR] at hx;exact hx
 | ok v =>
  obtain ⟨l,j⟩:=v;rw [hR] at hx;obtain ⟨rfl,⟨v,hv,h2⟩,h3⟩:=hx;obtain ⟨g,hG⟩:=hM.2.2.2;obtain ⟨g',hg',hG'⟩:=hG.lt hr.lt;exact ⟨rfl,⟨_,k,n,h2,hM.1,hM.2.1,hM.2.2.1,g',hG'.aeR (Kp.but h3) hr.lt hg' hv⟩,But.t h3⟩
theorem aez {w0:AG} {p:Nat} {s:AH}:oJ w0 p s (MM p) (mb s 4) 4:=by
 intro st c en k i n w hr hM;refine (V8 w0 p s c en k i n w hr).mono ?_;intro e w' hx;show lY w0 p s (MM p) en w (bd (bB (qy s en) s en i) λl j=>.ok ({ st with m:={ st.m with tables:=l } },j)) e w';cases hR:bB (qy s en) s en i with
 | error z=>rw [hR] at hx;exact hx
 | ok v =>
  obtain ⟨l,j⟩:=v;rw [hR] at hx;obtain ⟨rfl,⟨v,hv,h2⟩,h3⟩:=hx;obtain ⟨g,hG⟩:=hM.2.2.2;obtain ⟨g',hg',hG'⟩:=hG.lt hr.lt;exact ⟨rfl,⟨_,k,n,h2,hM.1,hM.2.1,hM.2.2.1,g',hG'.aeS (Kp.but h3) hr.lt hg' hv⟩,But.t h3⟩
theorem aeA {w0:AG} {p:Nat} {s:AH}:oJ w0 p s (MM p) (mb s 5) 5:=by
 intro st c en k i n w hr hM;refine (Wd w0 p s c en k i n w hr).mono ?_;intro e w' hx;show lY w0 p s (MM p) en w (bd (bB (kK s en) s en i) λl j=>.ok ({ st with m:={ st.m with aF:=l } },j)) e w';cases hR:bB (kK s en) s en i with
 | error z=>rw [hR] at hx;exact hx
 | ok v =>
  obtain ⟨l,j⟩:=v;rw [hR] at hx;obtain ⟨rfl,⟨v,hv,h2⟩,h3⟩:=hx;obtain ⟨g,hG⟩:=hM.2.2.2;obtain ⟨g',hg',hG'⟩:=hG.lt hr.lt;exact ⟨rfl,⟨_,k,n,h2,hM.1,hM.2.1,hM.2.2.1,g',hG'.aeT (Kp.but h3) hr.lt hg' hv⟩,But.t h3⟩
theorem aeB {w0:AG} {p:Nat} {s:AH}:oJ w0 p s (MM p) (mb s 6) 6:=by
 intro st c en k i n w hr hM;refine (Wh w0 p s c en k i n w hr 81).mono ?_;intro e w' hx;show lY w0 p s (MM p) en w (bd (bB (oK 81 s en) s en i) λl j=>.ok ({ st with m:={ st.m with globals:=l } },j)) e w';cases hR:bB (oK 81 s en) s en i with
 | error z=>rw [hR] at hx;exact hx
 | ok v =>
  obtain ⟨l,j⟩:=v;rw [hR] at hx;obtain ⟨rfl,⟨v,hv,h2⟩,h3⟩:=hx;obtain ⟨g,hG⟩:=hM.2.2.2;obtain ⟨g',hg',hG'⟩:=hG.lt hr.lt;exact ⟨rfl,⟨_,k,n,h2,hM.1,hM.2.1,hM.2.2.1,g',hG'.aeU (Kp.but h3) hr.lt hg' hv⟩,But.t h3⟩
theorem aeC {w0:AG} {p:Nat} {s:AH} (hU:∀u,AS w0 u->mI u):oJ w0 p s (MM p) (mb s 7) 7:=by
 intro st c en k i n w hr hM;refine (Wj w0 p s c en k i n w hr hU).mono ?_;intro e w' hx;show lY w0 p s (MM p) en w (bd (bB (nS s en) s en i) λl j=>.ok ({ st with m:={ st.m with exports:=l } },j)) e w';cases hR:bB (nS s en) s en i with
 | error z=>rw [hR] at hx;exact hx
 | ok v =>
  obtain ⟨l,j⟩:=v;rw [hR] at hx;obtain ⟨rfl,⟨v,hv,h2⟩,h3⟩:=hx;obtain ⟨g,hG⟩:=hM.2.2.2;obtain ⟨g',hg',hG'⟩:=hG.lt hr.lt;exact ⟨rfl,⟨_,k,n,h2,hM.1,hM.2.1,hM.2.2.1,g',hG'.aeV (Kp.but h3) hr.lt hg' hv⟩,But.t h3⟩
theorem aeD {w0:AG} {p:Nat} {s:AH}:oJ w0 p s (MM p) (mb s 8) 8:=by
 intro st c en k i n w hr hM;refine (acH w0 p s c en k i n w hr).mono ?_;intro e w' hx;show lY w0 p s (MM p) en w (bd (zE s en i) λl j=>.ok ({ st with m:={ st.m with start:=l } },j)) e w';cases hR:zE s en i with
 | error z=>rw [hR] at hx;exact hx
 | ok v =>
  obtain ⟨l,j⟩:=v;rw [hR] at hx;obtain ⟨rfl,⟨v,hv,h2⟩,h3⟩:=hx;obtain ⟨g,hG⟩:=hM.2.2.2;obtain ⟨g',hg',hG'⟩:=hG.lt hr.lt;exact ⟨rfl,⟨_,k,n,h2,hM.1,hM.2.1,hM.2.2.1,g',hG'.aeW (Kp.but h3) hr.lt hg' hv⟩,But.t h3⟩
theorem aeE {w0:AG} {p:Nat} {s:AH}:oJ w0 p s (MM p) (mb s 9) 9:=by
 intro st c en k i n w hr hM;refine (Wm w0 p s c en k i n w hr 81).mono ?_;intro e w' hx;show lY w0 p s (MM p) en w (bd (bB (oM 81 s en) s en i) λl j=>.ok ({ st with m:={ st.m with elems:=l } },j)) e w';cases hR:bB (oM 81 s en) s en i with
 | error z=>rw [hR] at hx;exact hx
 | ok v =>
  obtain ⟨l,j⟩:=v;rw [hR] at hx;obtain ⟨rfl,⟨v,hv,h2⟩,h3⟩:=hx;obtain ⟨g,hG⟩:=hM.2.2.2;obtain ⟨g',hg',hG'⟩:=hG.lt hr.lt;exact ⟨rfl,⟨_,k,n,h2,hM.1,hM.2.1,hM.2.2.1,g',hG'.aeX (Kp.but h3) hr.lt hg' hv⟩,But.t h3⟩
theorem aeF {w0:AG} {p:Nat} {s:AH}:oJ w0 p s (MM p) (mb s 11) 11:=by
 intro st c en k i n w hr hM;refine (Wo w0 p s c en k i n w hr 81).mono ?_;intro e w' hx;show lY w0 p s (MM p) en w (bd (bB (oO 81 s en) s en i) λl j=>.ok ({ st with m:={ st.m with aA:=l } },j)) e w';cases hR:bB (oO 81 s en) s en i with
 | error z=>rw [hR] at hx;exact hx
 | ok v =>
  obtain ⟨l,j⟩:=v;rw [hR] at hx;obtain ⟨rfl,⟨v,hv,h2⟩,h3⟩:=hx;obtain ⟨g,hG⟩:=hM.2.2.2;obtain ⟨g',hg',hG'⟩:=hG.lt hr.lt;exact ⟨rfl,⟨_,k,n,h2,hM.1,hM.2.1,hM.2.2.1,g',hG'.aeY (Kp.but h3) hr.lt hg' hv⟩,But.t h3⟩
theorem aey {w0:AG} {p:Nat} {s:AH}:oJ w0 p s (MM p) (mb s 3) 3:=by
 intro st c en k i n w hr hM;refine (V6 w0 p s c en k i n w hr).mono ?_;intro e w' hx;show lY w0 p s (MM p) en w (bd (bB (qO s en) s en i) λl j=>.ok ({ st with m:={ st.m with funcs:=l.map yp } },j)) e w';cases hR:bB (qO s en) s en i with
 | error z=>rw [hR] at hx;exact hx
 | ok v =>
  obtain ⟨l,j⟩:=v;rw [hR] at hx;obtain ⟨rfl,⟨v,hv,h2⟩,h3⟩:=hx;obtain ⟨g,hG⟩:=hM.2.2.2;obtain ⟨g',hG'⟩:=hG.ae2 (Kp.but h3) hr.lt hv;exact ⟨rfl,⟨_,k,n,h2,hM.1,hM.2.1,hM.2.2.1,g',hG'⟩,But.t h3⟩
end Go.Proofs.YtcfifbgemfladaaGreatDoor
namespace Go.Proofs.YtcfifbgemfladaaGreatDoor
open Go.RowKit au aI Go.Proofs.Tryz
set_option linter.unusedVariables false
namespace aI
theorem OC {s:AH} {en:Nat}:∀(r:Nat) (l:List (List Int × IL 81)) (i n:Nat) (fs:List (List Int × IL 81)) (j m:Nat),n<=65536->vE s en r l i n=.ok (fs,j,m)->m<=65536
 | 0,l,i,n,fs,j,m,hn,h=>by cases h;exact hn
 | r+1,l,i,n,fs,j,m,hn,h=>by
  rw [JC] at h;obtain ⟨x,j1,n1,h1,h2⟩:=kP h;exact OC r _ _ _ _ _ _ (OD hn h1) h2
theorem Ya {s:AH} {en L i n:Nat} {fs:List (List Int × IL 81)} {j m:Nat} (hn:n<=65536) (h:qU s en L i n=.ok (fs,j,m)):m<=65536:=by
 unfold qU at h;obtain ⟨z,j1,n1,h1,h2⟩:=kP h;have e:=(vF h1).2;by_cases hz:z=(L:Int)
 ·rw [AE hz] at h2;exact OC _ _ _ _ _ _ _ (by omega) h2
 rw [AD hz] at h2;cases h2
theorem MG.code {p g:Nat} {m:Mod 81} {c:Nat->Value} {w w':AG} (h:MG p g m c w) (hb:jB p g w w') (hp:p<w.heap.size) {fs:List (List Int × IL 81)} (hl:fs.length=m.funcs.length)
  {o:Option Addr} {ob cap:Nat} {ty:Nat->Int} {a b:Nat->Value} (h1:c 2=.slice o m.funcs.length cap) (h2:0<m.funcs.length->o=some ⟨g,ob,none⟩/\FB g ob m.funcs.length ty a b w/\p<g) (h3:∀j f,m.funcs[j]?=some f->ty j=f.type)
  (hf:0<m.funcs.length->∃a' b',FB g ob m.funcs.length ty a' b' w'/\∀q x,fs[q]?=some x->aU w' (Since w.heap.size w' none) (a' q) x.1/\az w' (Since w.heap.size w' none) 81 (b' q) x.2) :
  MG p g { m with funcs:=List.zipWith vG m.funcs fs } c w':=by
 have hs:∀k,Sm p g w k->Sm p g w' k/\w'.heap[k]?=w.heap[k]?:=λk hk=>⟨⟨hk.1,jg hk.2.1 hb.size,hk.2.2⟩,hb.block k hk.2.1 (by have:=hk.1;omega) hk.2.2⟩;have hlen:(List.zipWith vG m.funcs fs).length=m.funcs.length:=by rw [List.length_zipWith,hl,Nat.min_self]
 refine ⟨aR.keep Ak hs h.types,aR.keep Am hs h.imports,aR.keep rP hs h.tables,aR.keep rP hs h.aF,aR.keep (Au 81) hs h.globals,aR.keep Aq hs h.exports,aR.keep AY hs h.start,aR.keep (Aw 81) hs h.elems,aR.keep (Az 81) hs h.aA,?_⟩;by_cases h0:0<m.funcs.length
 ·obtain ⟨rfl,JD,Yb⟩:=h2 h0;have BX:=JD.lt;obtain ⟨a',b',Yc,hx⟩:=hf h0;refine ⟨_,ob,cap,ty,a',b',by rw [hlen];exact h1,λ_=>⟨rfl,by rw [hlen];exact Yc,Yb⟩,λj f hj=>?_⟩;have hj:(List.zipWith vG m.funcs fs)[j]?=some f:=hj;rw [List.getElem?_zipWith] at hj;cases hm:m.funcs[j]? with
  | none=>rw [hm] at hj;cases hj
  | some f0 =>
   cases hq:fs[j]? with
   | none=>rw [hm,hq] at hj;cases hj
   | some x =>
    rw [hm,hq] at hj;have hj:vG f0 x=f:=by simpa using hj
    subst hj;obtain ⟨i1,a1⟩:=hx j x hq;exact ⟨h3 j f0 hm,i1.keep (vH hp BX),az.keep (vH hp BX) _ _ _ a1⟩
 have hn:m.funcs = []:=iZ.1 (by omega);refine ⟨o,ob,cap,ty,a,b,by rw [hlen];exact h1,λh=>absurd h (by rw [hlen];exact h0),λj f hj=>?_⟩;have hj:(List.zipWith vG m.funcs fs)[j]?=some f:=hj;rw [hn] at hj;simp at hj
theorem MG.none_ {p g:Nat} {m:Mod 81} {c:Nat->Value} {w:AG} (h:MG p g m c w) (h0:¬ 0<m.funcs.length):MG p p m c w:=by
 have hs:∀k,Sm p g w k->Sm p p w k/\w.heap[k]?=w.heap[k]?:=λk hk=>⟨⟨hk.1,hk.2.1,by have:=hk.1;omega⟩,rfl⟩;refine ⟨aR.keep Ak hs h.types,aR.keep Am hs h.imports,aR.keep rP hs h.tables,aR.keep rP hs h.aF,aR.keep (Au 81) hs h.globals,aR.keep Aq hs h.exports,aR.keep AY hs h.start,aR.keep (Aw 81) hs h.elems,aR.keep (Az 81) hs h.aA,?_⟩;obtain ⟨o,ob,cap,ty,a,b,h1,h2,h3⟩:=h.funcs;refine ⟨o,ob,cap,ty,a,b,h1,λh=>absurd h h0,λj f hj=>?_⟩;have hn:m.funcs = []:=iZ.1 (by omega);rw [hn] at hj;simp at hj
end aI
theorem Yd {w0:AG} {p:Nat} {s:AH}:oJ w0 p s (MM p) (mb s 10) 10:=by
 intro st c en k i n w hr hM;obtain ⟨hk,hn,fV,g,hG⟩:=hM
 have fin:∀g,MG p g st.m c w->(0<st.m.funcs.length\/g=p)->Calls prog 51 #[.pointer (some ⟨p,0,none⟩),.int .i64 10] w (lY w0 p s (MM p) en w (mb s 10 st en i)):=by
  intro g hG zm;obtain ⟨o,ob,cap,ty,a,b,h1,h2,h3⟩:=hG.funcs;have hbase:=hr.base;refine (Ye w0 p s c en k i n g ob st.m.funcs.length cap o ty a b w hr fV h1 (λh0=>⟨(h2 h0).1,(h2 h0).2.1,by have:=(h2 h0).2.2;omega,by have:=(h2 h0).2.2;omega⟩)).mono ?_;intro e w' hx
  show lY w0 p s (MM p) en w (match qU s en st.m.funcs.length i st.cnt with
   | .ok (fs,j,n)=>.ok (⟨{ st.m with funcs:=List.zipWith vG st.m.funcs fs },st.m.funcs.length,n⟩,j)
   | .error z=>.error z) e w'
  rw [<- hn];cases hR:qU s en st.m.funcs.length i n with
  | error z=>rw [hR] at hx;exact hx
  | ok v =>
   obtain ⟨fs,j,m⟩:=v;rw [hR] at hx;obtain ⟨rfl,⟨hrs,hl,zW⟩,hb⟩:=hx;refine ⟨rfl,⟨c,_,m,hrs,rfl,rfl,Ya fV hR,g,?_⟩,?_⟩
   ·exact hG.code hb hr.lt hl h1 h2 (λj f hj=>(h3 j f hj).1) zW
   rcases zm with h0|rfl
   ·exact hb.t (h2 h0).2.1
   exact ⟨hb.os,hb.tape,hb.output,hb.size,λk hk hp _=>hb.block k hk hp hp⟩
 by_cases h0:0<st.m.funcs.length
 ·exact fin g hG (.inl h0)
 exact fin p (hG.none_ h0) (.inr rfl)
namespace aI
def Bt (id:Int):Bool:=decide (0<=id/\id<=11)
def Tw:Mod 81:=⟨[],[],[],[],[],[],[],[],[],[]⟩
def yt:Sg:=⟨Tw,0,0⟩
def Ct (st:Sg):Nat:=st.m.funcs.length
def tY (s:AH):Nat->Int->Sg->Nat->Option (R Sg):=qZ (mb s) Bt Sg.codes Ct s s.size
theorem Tx (s:AH):∀(f:Nat) (last:Int) (st:Sg) (i:Nat),s.size-i<f->∃X,tY s f last st i=some X
 | 0,last,st,i,h=>by omega
 | f+1,last,st,i,h=>by
  unfold tY qZ;by_cases hi:i<s.size
  ·rw [AE hi];have hn:nx s s.size i=.ok (af.bt s i,i+1):=by unfold nx;rw [AE hi]
   have hb:=af.xL s i;rw [hn];simp only [];by_cases h1:11<af.bt s i
   ·rw [AE h1];exact ⟨_,rfl⟩
   rw [AD h1];by_cases h2:af.bt s i≠0/\¬ last<af.bt s i
   ·rw [AE h2];exact ⟨_,rfl⟩
   rw [AD h2,AE (show Bt (af.bt s i)=true from ay ⟨by omega,by omega⟩)];cases hz:uE (mb s (af.bt s i)) s st s.size (i+1) with
   | error z=>exact ⟨_,rfl⟩
   | ok v =>
    obtain ⟨st',m⟩:=v
    have:=KQ (aC _) hz
    exact Tx s f _ st' m (by omega)
  rw [AD hi];exact ⟨_,rfl⟩
def zD (s:AH):R Sg:=if 262144<s.size then .error 2 else if pfx s=false then .error 50 else (tY s (s.size+1) 0 yt 8).getD (.error 50)
theorem aer (s:AH):(if 262144<s.size then some (.error 2) else if pfx s=false then some (.error 50) else qZ (mb s) Bt Sg.codes Ct s s.size (s.size+1) 0 yt 8)=some (zD s):=by
 unfold zD;split
 ·rfl
 split
 ·rfl
 obtain ⟨X,hX⟩:=Tx s (s.size+1) 0 yt 8 (by omega);have hX':qZ (mb s) Bt Sg.codes Ct s s.size (s.size+1) 0 yt 8=some X:=hX;rw [hX,hX'];rfl
theorem yR {α:Type} (n:Nat) (F:EA α) (w:AG) (S:Nat->Prop):aR n F w S (.slice none 0 0) []:=⟨by simp,.inl ⟨rfl,none,0,rfl⟩⟩
theorem aes (p:Nat) (w:AG):MM p yt (λ_=>.slice none 0 0) 0 0 w :=
 ⟨rfl,rfl,by omega,0,yR _ _ _ _,yR _ _ _ _,yR _ _ _ _,yR _ _ _ _,yR _ _ _ _,yR _ _ _ _,yR _ _ _ _,yR _ _ _ _,yR _ _ _ _,none,0,0,λ_=>0,λ_=>.slice none 0 0,λ_=>.slice none 0 0,rfl,λh=>absurd h (by decide),λj f hj=>by simp [yt,Tw] at hj⟩
theorem yS {α:Type} {n:Nat} {F:EA α} {w:AG} {S:Nat->Prop} {v:Value} {l:List α} (h:aR n F w S v l):∃o n k,v=.slice o n k:=by
 obtain ⟨o,k,e⟩:=Row.len h;exact ⟨o,_,k,e⟩
theorem aet (p:Nat) (st:Sg) (c:Nat->Value) (k n:Nat) (w:AG) (h:MM p st c k n w):(k=st.codes/\∃o cap,c 2=.slice o (Ct st) cap)/\∀j,j<10->∃o n k,c j=.slice o n k:=by
 obtain ⟨h1,h2,h3,g,hG⟩:=h;obtain ⟨o,ob,cap,ty,a,b,e,_⟩:=hG.funcs;refine ⟨⟨h1,o,cap,e⟩,λj hj=>?_⟩
 match j,hj with
 | 0,_=>exact yS hG.types
 | 1,_=>exact yS hG.imports
 | 2,_=>exact ⟨o,_,cap,e⟩
 | 3,_=>exact yS hG.tables
 | 4,_=>exact yS hG.aF
 | 5,_=>exact yS hG.globals
 | 6,_=>exact yS hG.exports
 | 7,_=>exact yS hG.start
 | 8,_=>exact yS hG.elems
 | 9,_=>exact yS hG.aA
theorem LP {d:Nat} {w:AG} {S:Nat->Prop} {g o:Nat} {x:Ins (IL d)} (h:zg w S (az w S d) g o x):fM w (At w d) g o x :=
 ⟨h.op,h.a,h.b,h.n,let ⟨v,a,b⟩:=h.labels;⟨v,a,b.at⟩,let ⟨v,a,b⟩:=h.body;⟨v,a,az.at d v _ b⟩,let ⟨v,a,b⟩:=h.els;⟨v,a,az.at d v _ b⟩⟩
theorem X7 {p:Nat} {st:Sg} {c:Nat->Value} {k n:Nat} {w:AG} (h:MM p st c k n w) (hl:st.m.funcs.length<=9223372036854775807):iG w 81 (c 0) (c 1) (c 2) (c 3) (c 4) (c 5) (c 6) (c 7) (c 8) (c 9) st.m:=by
 obtain ⟨h1,h2,h3,g,hG⟩:=h;refine ⟨Row.imp hG.types λb o x _ ⟨_,⟨v,a,b⟩,u,c,d⟩=>⟨⟨v,a,b.at⟩,u,c,d.at⟩,Row.imp hG.imports λ_ _ _ _ h=>h.2,?_,Row.imp hG.tables λ_ _ _ _ h=>h.2,Row.imp hG.aF λ_ _ _ _ h=>h.2,Row.imp hG.globals λ_ _ _ _ h=>⟨h.2.1,h.2.2.1,LP h.2.2.2⟩,Row.imp hG.exports λ_ _ _ _ h=>h.2,Row.imp hG.start λ_ _ _ _ h=>h.2,Row.imp hG.elems λ_ _ _ _ ⟨_,h,v,a,b⟩=>⟨LP h,v,a,b.at⟩,Row.imp hG.aA λ_ _ _ _ h=>⟨LP h.2.1,h.2.2⟩⟩;obtain ⟨o,ob,cap,ty,a,b,e,h4,h5⟩:=hG.funcs;rw [e];by_cases h0:0<st.m.funcs.length
 ·obtain ⟨rfl,hF,_⟩:=h4 h0;refine ⟨hl,.inr ⟨g,ob,cap,rfl,λj f hj=>?_⟩⟩;have hjl:j<st.m.funcs.length:=(gq.1 hj).1;obtain ⟨c1,c2,c3⟩:=hF.cell hjl;obtain ⟨e1,e2,e3⟩:=h5 j f hj;rw [e1] at c1;exact ⟨c1,⟨_,c2,e2.at⟩,_,c3,az.at 81 _ _ e3⟩
 have hn:st.m.funcs = []:=iZ.1 (by omega);rw [hn];exact ⟨by simp,.inl ⟨rfl,o,cap,rfl⟩⟩
end aI
theorem aeu {w0:AG} {p:Nat} {s:AH} (hU:∀u,AS w0 u->mI u) {id:Int} (h:Bt id=true):oJ w0 p s (MM p) (mb s id) id:=by
 have h:=of_decide_eq_true h;have hc:id=0\/id=1\/id=2\/id=3\/id=4\/id=5\/id=6\/id=7\/id=8\/id=9\/id=10\/id=11:=by omega
 rcases hc with rfl|rfl|rfl|rfl|rfl|rfl|rfl|rfl|rfl|rfl|rfl|rfl
 ·exact aev hU
 ·exact aew
 ·exact aex hU
 ·exact aey
 ·exact aez
 ·exact aeA
 ·exact aeB
 ·exact aeC hU
 ·exact aeD
 ·exact aeE
 ·exact Yd
 exact aeF
theorem X6 (s:AH) (w:AG) (hs:s.size<=4611686018427387904) (hU:mI w):Calls prog 11 #[.string s] w (PZ MM w (zD s)) :=
 P6 (M:=MM) (sec:=mb s) (ok:=Bt) (cd:=Sg.codes) (fl:=Ct) (st0:=yt) s w hs Ty (λw0 p id hb hid=>aeu (λu hu=>zn hU (dM hb hu)) hid) aet aes (s.size+1) (zD s) (aer s)
end Go.Proofs.YtcfifbgemfladaaGreatDoor
