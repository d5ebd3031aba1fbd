/- Texts that the claim needs. -/
import Derived.Test.YtgbbmdknbflilaaDoorQDcu24
import Derived.Test.YtgbbmdknbflilaaDoorQDcu25
namespace Go.Proofs.YtgbbmdknbflilaaDoor
open Go.RowKit Rep Dec
set_option linter.unusedVariables false
namespace Dec
structure Sg where
 m:Mod 81
 codes:Nat
 cnt:Nat
def Sm (p g:Nat) (w:World) (k:Nat):Prop:=p<k/\k<w.heap.size/\k≠g
structure MG (p g:Nat) (m:Mod 81) (c:Nat->Value) (w:World):Prop where
 types:RowS 2 aFT w (Sm p g w) (c 0) m.types
 imports:RowS 3 aImp w (Sm p g w) (c 1) m.imports
 tables:RowS 3 aLim w (Sm p g w) (c 3) m.tables
 mems:RowS 3 aLim w (Sm p g w) (c 4) m.mems
 globals:RowS 9 (aGlo 81) w (Sm p g w) (c 5) m.globals
 exports:RowS 3 aExp w (Sm p g w) (c 6) m.exports
 start:RowS 1 aInt w (Sm p g w) (c 7) m.start
 elems:RowS 8 (aElm 81) w (Sm p g w) (c 8) m.elems
 datas:RowS 8 (aDat 81) w (Sm p g w) (c 9) m.datas
 funcs:∃(o:Option Addr) (ob cap:Nat) (ty:Nat->Int) (a b:Nat->Value),c 2=.slice o m.funcs.length cap/\(0<m.funcs.length->o=some ⟨g,ob,none⟩/\FB g ob m.funcs.length ty a b w/\p<g)/\∀j f,m.funcs[j]?=some f->ty j=f.type/\IntsS w (Sm p g w) (a j) f.locals/\AtS w (Sm p g w) 81 (b j) f.body
def MM (p:Nat) (st:Sg) (c:Nat->Value) (k n:Nat) (w:World):Prop:=k=st.codes/\n=st.cnt/\n<=65536/\∃g,MG p g st.m c w
def Kp (p:Nat) (w w':World):Prop:=(∀b,p<b->b<w.heap.size->w'.heap[b]?=w.heap[b]?)/\w.heap.size<=w'.heap.size
theorem Kp.sm {p g:Nat} {w w':World} (h:Kp p w w'):∀k,Sm p g w k->Sm p g w' k/\w'.heap[k]?=w.heap[k]?:=fun k hk=>⟨⟨hk.1,Nat.lt_of_lt_of_le hk.2.1 h.2,hk.2.2⟩,h.1 k hk.1 hk.2.1⟩
theorem Kp.but {p:Nat} {w w':World} (h:But p w w'):Kp p w w':=⟨fun b hb hl=>h.block b hl (by simp;omega),h.size⟩
theorem MG.keep {p g:Nat} {m:Mod 81} {c:Nat->Value} {w w':World} (h:MG p g m c w) (hk:Kp p w w'):MG p g m c w' where
 types:=RowS.keep aFT_keep hk.sm h.types
 imports:=RowS.keep aImp_keep hk.sm h.imports
 tables:=RowS.keep aLim_keep hk.sm h.tables
 mems:=RowS.keep aLim_keep hk.sm h.mems
 globals:=RowS.keep (aGlo_keep 81) hk.sm h.globals
 exports:=RowS.keep aExp_keep hk.sm h.exports
 start:=RowS.keep aInt_keep hk.sm h.start
 elems:=RowS.keep (aElm_keep 81) hk.sm h.elems
 datas:=RowS.keep (aDat_keep 81) hk.sm h.datas
 funcs:=by
  obtain ⟨o,ob,cap,ty,a,b,h1,h2,h3⟩:=h.funcs
  exact ⟨o,ob,cap,ty,a,b,h1,fun h0=>⟨(h2 h0).1,(h2 h0).2.1.keep (hk.1 g (h2 h0).2.2 (h2 h0).2.1.lt),(h2 h0).2.2⟩,fun j f hj=>⟨(h3 j f hj).1,(h3 j f hj).2.1.keep hk.sm,AtS.keep hk.sm _ _ _ (h3 j f hj).2.2⟩⟩
theorem MM_keeps (p:Nat):KeepsB p (MM p):=fun st c k n w w' ⟨h1,h2,h3,g,h4⟩ hb hs=>⟨h1,h2,h3,g,h4.keep ⟨hb,hs⟩⟩
theorem new_sm {p g:Nat} {w w':World} (hp:p<w.heap.size) (hg:g<w.heap.size):∀k,Since w.heap.size w' none k->Sm p g w' k/\w'.heap[k]?=w'.heap[k]?:=fun k hk=>⟨⟨by have:=hk.1;omega,hk.2.1,by have:=hk.1;omega⟩,rfl⟩
theorem MG.lt {p g:Nat} {m:Mod 81} {c:Nat->Value} {w:World} (h:MG p g m c w) (hp:p<w.heap.size):∃g',g'<w.heap.size/\MG p g' m c w:=by
 by_cases hg:g<w.heap.size
 ·exact ⟨g,hg,h⟩
 ·have hs:∀k,Sm p g w k->Sm p p w k/\w.heap[k]?=w.heap[k]?:=fun k hk=>⟨⟨hk.1,hk.2.1,by have:=hk.1;omega⟩,rfl⟩
  refine ⟨p,hp,⟨RowS.keep aFT_keep hs h.types,RowS.keep aImp_keep hs h.imports,RowS.keep aLim_keep hs h.tables,RowS.keep aLim_keep hs h.mems,RowS.keep (aGlo_keep 81) hs h.globals,RowS.keep aExp_keep hs h.exports,RowS.keep aInt_keep hs h.start,RowS.keep (aElm_keep 81) hs h.elems,RowS.keep (aDat_keep 81) hs h.datas,?_⟩⟩
  obtain ⟨o,ob,cap,ty,a,b,h1,h2,h3⟩:=h.funcs
  refine ⟨o,ob,cap,ty,a,b,h1,fun h0=>absurd (h2 h0).2.1.lt hg,fun j f hj=>?_⟩
  have hj0:j<m.funcs.length:=(List.getElem?_eq_some_iff.1 hj).1
  exact absurd (h2 (by omega)).2.1.lt hg
theorem MG.put_types {p g:Nat} {m:Mod 81} {c:Nat->Value} {w w':World} (h:MG p g m c w) (hk:Kp p w w') (hp:p<w.heap.size) (hg:g<w.heap.size) {v:Value} {l:List _} (hv:RowS 2 aFT w' (Since w.heap.size w' none) v l):MG p g { m with types:=l } (upd c 0 v) w' :=
 { h.keep hk with types:=RowS.keep aFT_keep (new_sm hp hg) hv }
theorem MG.put_imports {p g:Nat} {m:Mod 81} {c:Nat->Value} {w w':World} (h:MG p g m c w) (hk:Kp p w w') (hp:p<w.heap.size) (hg:g<w.heap.size) {v:Value} {l:List _} (hv:RowS 3 aImp w' (Since w.heap.size w' none) v l):MG p g { m with imports:=l } (upd c 1 v) w' :=
 { h.keep hk with imports:=RowS.keep aImp_keep (new_sm hp hg) hv }
theorem MG.put_tables {p g:Nat} {m:Mod 81} {c:Nat->Value} {w w':World} (h:MG p g m c w) (hk:Kp p w w') (hp:p<w.heap.size) (hg:g<w.heap.size) {v:Value} {l:List _} (hv:RowS 3 aLim w' (Since w.heap.size w' none) v l):MG p g { m with tables:=l } (upd c 3 v) w' :=
 { h.keep hk with tables:=RowS.keep aLim_keep (new_sm hp hg) hv }
theorem MG.put_mems {p g:Nat} {m:Mod 81} {c:Nat->Value} {w w':World} (h:MG p g m c w) (hk:Kp p w w') (hp:p<w.heap.size) (hg:g<w.heap.size) {v:Value} {l:List _} (hv:RowS 3 aLim w' (Since w.heap.size w' none) v l):MG p g { m with mems:=l } (upd c 4 v) w' :=
 { h.keep hk with mems:=RowS.keep aLim_keep (new_sm hp hg) hv }
theorem MG.put_globals {p g:Nat} {m:Mod 81} {c:Nat->Value} {w w':World} (h:MG p g m c w) (hk:Kp p w w') (hp:p<w.heap.size) (hg:g<w.heap.size) {v:Value} {l:List _} (hv:RowS 9 (aGlo 81) w' (Since w.heap.size w' none) v l):MG p g { m with globals:=l } (upd c 5 v) w' :=
 { h.keep hk with globals:=RowS.keep (aGlo_keep 81) (new_sm hp hg) hv }
theorem MG.put_exports {p g:Nat} {m:Mod 81} {c:Nat->Value} {w w':World} (h:MG p g m c w) (hk:Kp p w w') (hp:p<w.heap.size) (hg:g<w.heap.size) {v:Value} {l:List _} (hv:RowS 3 aExp w' (Since w.heap.size w' none) v l):MG p g { m with exports:=l } (upd c 6 v) w' :=
 { h.keep hk with exports:=RowS.keep aExp_keep (new_sm hp hg) hv }
theorem MG.put_start {p g:Nat} {m:Mod 81} {c:Nat->Value} {w w':World} (h:MG p g m c w) (hk:Kp p w w') (hp:p<w.heap.size) (hg:g<w.heap.size) {v:Value} {l:List _} (hv:RowS 1 aInt w' (Since w.heap.size w' none) v l):MG p g { m with start:=l } (upd c 7 v) w' :=
 { h.keep hk with start:=RowS.keep aInt_keep (new_sm hp hg) hv }
theorem MG.put_elems {p g:Nat} {m:Mod 81} {c:Nat->Value} {w w':World} (h:MG p g m c w) (hk:Kp p w w') (hp:p<w.heap.size) (hg:g<w.heap.size) {v:Value} {l:List _} (hv:RowS 8 (aElm 81) w' (Since w.heap.size w' none) v l):MG p g { m with elems:=l } (upd c 8 v) w' :=
 { h.keep hk with elems:=RowS.keep (aElm_keep 81) (new_sm hp hg) hv }
theorem MG.put_datas {p g:Nat} {m:Mod 81} {c:Nat->Value} {w w':World} (h:MG p g m c w) (hk:Kp p w w') (hp:p<w.heap.size) (hg:g<w.heap.size) {v:Value} {l:List _} (hv:RowS 8 (aDat 81) w' (Since w.heap.size w' none) v l):MG p g { m with datas:=l } (upd c 9 v) w' :=
 { h.keep hk with datas:=RowS.keep (aDat_keep 81) (new_sm hp hg) hv }
theorem fty_row {w:World} {S:Nat->Prop} {v:Value} {l:List Int} (h:RowS 3 aFty w S v l):(l = []/\∃o k,v=.slice o 0 k)\/∃g ob k,v=.slice (some ⟨g,ob,none⟩) l.length k/\S g/\FB g ob l.length (fun j=>l.getD j 0) (fun _=>.slice none 0 0) (fun _=>.slice none 0 0) w:=by
 rcases h.2 with ⟨rfl,o,k,rfl⟩|⟨g,ob,k,rfl,hx⟩
 ·exact .inl ⟨rfl,o,k,rfl⟩
 ·cases l with
  | nil=>exact .inl ⟨rfl,_,_,rfl⟩
  | cons x0 r =>
   obtain ⟨hS,⟨cur,hcur⟩,_⟩:=hx 0 x0 rfl
   refine .inr ⟨g,ob,k,rfl,hS,cur,hcur,fun j hj=>?_⟩
   obtain ⟨_,_,h1,h2,h3⟩:=hx j ((x0 :: r)[j]'hj) (List.getElem?_eq_getElem hj)
   unfold World.cell? at h1 h2 h3
   rw [hcur] at h1 h2 h3
   have e:(x0 :: r).getD j 0=(x0 :: r)[j]:=by rw [List.getD_eq_getElem?_getD,List.getElem?_eq_getElem hj];rfl
   exact ⟨by show _=some (Value.int .i64 ((x0 :: r).getD j 0));rw [e];exact h1,h2,h3⟩
theorem ints_nil0 (w:World) (S:Nat->Prop):IntsS w S (.slice none 0 0) []:=⟨by simp,.inl ⟨rfl,none,0,rfl⟩⟩
theorem atS_none (w:World) (S:Nat->Prop):∀d,AtS w S d (.slice none 0 0) (none_ d)
 | 0=>⟨none,0,rfl⟩
 | d+1=>⟨by simp [none_],.inl ⟨rfl,none,0,rfl⟩⟩
def tyFun (t:Int):Fun 81:=⟨t,[],none_ 81⟩
theorem MG.put_funcs {p g:Nat} {m:Mod 81} {c:Nat->Value} {w w':World} (h:MG p g m c w) (hk:Kp p w w') (hp:p<w.heap.size) {v:Value} {l:List Int} (hv:RowS 3 aFty w' (Since w.heap.size w' none) v l):∃g',MG p g' { m with funcs:=l.map tyFun } (upd c 2 v) w':=by
 have main:∀g',(∀k,Sm p g w' k->k<w.heap.size->k≠g')->(∃o ob cap,v=.slice o l.length cap/\(0<l.length->o=some ⟨g',ob,none⟩/\FB g' ob l.length (fun j=>l.getD j 0) (fun _=>.slice none 0 0) (fun _=>.slice none 0 0) w'/\p<g'))->MG p g' { m with funcs:=l.map tyFun } (upd c 2 v) w':=by
  intro g' hg' ⟨o,ob,cap,hv1,hv2⟩
  have hs:∀k,Sm p g w k->Sm p g' w' k/\w'.heap[k]?=w.heap[k]?:=fun k hk'=>by
   obtain ⟨a1,a2⟩:=hk.sm k hk'
   exact ⟨⟨a1.1,a1.2.1,hg' k a1 hk'.2.1⟩,a2⟩
  refine ⟨RowS.keep aFT_keep hs h.types,RowS.keep aImp_keep hs h.imports,RowS.keep aLim_keep hs h.tables,RowS.keep aLim_keep hs h.mems,RowS.keep (aGlo_keep 81) hs h.globals,RowS.keep aExp_keep hs h.exports,RowS.keep aInt_keep hs h.start,RowS.keep (aElm_keep 81) hs h.elems,RowS.keep (aDat_keep 81) hs h.datas,?_⟩
  refine ⟨o,ob,cap,fun j=>l.getD j 0,fun _=>.slice none 0 0,fun _=>.slice none 0 0,by rw [List.length_map];exact hv1,by rw [List.length_map];exact hv2,fun j f hj=>?_⟩
  have hj:(l.map tyFun)[j]?=some f:=hj
  rw [List.getElem?_map] at hj
  obtain ⟨t,ht,rfl⟩:=Option.map_eq_some_iff.1 hj
  exact ⟨by show l.getD j 0=t;rw [List.getD_eq_getElem?_getD,ht];rfl,ints_nil0 _ _,atS_none _ _ 81⟩
 rcases fty_row hv with ⟨rfl,o,k,rfl⟩|⟨g',ob,k,rfl,hS,hFB⟩
 ·exact ⟨g,main g (fun k hk _=>hk.2.2) ⟨o,0,k,rfl,fun h0=>absurd h0 (by simp)⟩⟩
 ·exact ⟨g',main g' (fun k hk hl=>by have:=hS.1;omega) ⟨_,ob,k,rfl,fun _=>⟨rfl,hFB,by have:=hS.1;omega⟩⟩⟩
def codeFun (f:Fun 81) (x:List Int × IL 81):Fun 81:=⟨f.type,x.1,x.2⟩
def secM (s:ByteArray) (id:Int):Sec Sg:=fun st en i=>match id.toNat with
 | 0=>bd (rcustom s en i) fun _ j=>.ok (st,j)
 | 1=>bd (rents (rft s en) s en i) fun l j=>.ok ({ st with m:={ st.m with types:=l } },j)
 | 2=>bd (rents (rimp s en) s en i) fun l j=>.ok ({ st with m:={ st.m with imports:=l } },j)
 | 4=>bd (rents (rtab s en) s en i) fun l j=>.ok ({ st with m:={ st.m with tables:=l } },j)
 | 5=>bd (rents (rlim s en) s en i) fun l j=>.ok ({ st with m:={ st.m with mems:=l } },j)
 | 6=>bd (rents (rglo 81 s en) s en i) fun l j=>.ok ({ st with m:={ st.m with globals:=l } },j)
 | 7=>bd (rents (rexp s en) s en i) fun l j=>.ok ({ st with m:={ st.m with exports:=l } },j)
 | 8=>bd (rstart s en i) fun l j=>.ok ({ st with m:={ st.m with start:=l } },j)
 | 9=>bd (rents (relm 81 s en) s en i) fun l j=>.ok ({ st with m:={ st.m with elems:=l } },j)
 | 11=>bd (rents (rdat 81 s en) s en i) fun l j=>.ok ({ st with m:={ st.m with datas:=l } },j)
 | 3=>bd (rents (rfty s en) s en i) fun l j=>.ok ({ st with m:={ st.m with funcs:=l.map tyFun } },j)
 | 10=>match rcode s en st.m.funcs.length i st.cnt with
  | .ok (fs,j,n)=>.ok (⟨{ st.m with funcs:=List.zipWith codeFun st.m.funcs fs },st.m.funcs.length,n⟩,j)
  | .error z=>.error z
 | _=>.error 50
end Dec
theorem secM0 {w0:World} {p:Nat} {s:ByteArray} (hU:∀u,Below w0.heap.size w0 u->UtfI u):SecSays w0 p s (MM p) (secM s 0) 0:=by
 intro st c en k i n w hr hM
 refine (sec0 w0 p s c en k i n w hr hU).mono ?_
 intro e w' hx
 show SecR w0 p s (MM p) en w (bd (rcustom s en i) fun _ j=>.ok (st,j)) e w'
 cases hR:rcustom s en i with
 | error z=>rw [hR] at hx;exact hx
 | ok v =>
  obtain ⟨u,j⟩:=v
  rw [hR] at hx
  obtain ⟨⟨v,rfl,hv⟩,h1,h2⟩:=hx
  have hv:v=.tuple #[]:=hv
  subst hv
  have hk:=Kp.but h2
  exact ⟨rfl,⟨c,k,n,h1,MM_keeps p _ _ _ _ _ _ hM hk.1 hk.2⟩,But.t h2⟩
theorem secM1 {w0:World} {p:Nat} {s:ByteArray}:SecSays w0 p s (MM p) (secM s 1) 1:=by
 intro st c en k i n w hr hM
 refine (sec1 w0 p s c en k i n w hr).mono ?_
 intro e w' hx
 show SecR w0 p s (MM p) en w (bd (rents (rft s en) s en i) fun l j=>.ok ({ st with m:={ st.m with types:=l } },j)) e w'
 cases hR:rents (rft s en) s en i with
 | error z=>rw [hR] at hx;exact hx
 | ok v =>
  obtain ⟨l,j⟩:=v
  rw [hR] at hx
  obtain ⟨rfl,⟨v,hv,h2⟩,h3⟩:=hx
  obtain ⟨g,hG⟩:=hM.2.2.2
  obtain ⟨g',hg',hG'⟩:=hG.lt hr.lt
  exact ⟨rfl,⟨_,k,n,h2,hM.1,hM.2.1,hM.2.2.1,g',hG'.put_types (Kp.but h3) hr.lt hg' hv⟩,But.t h3⟩
theorem secM2 {w0:World} {p:Nat} {s:ByteArray} (hU:∀u,Below w0.heap.size w0 u->UtfI u):SecSays w0 p s (MM p) (secM s 2) 2:=by
 intro st c en k i n w hr hM
 refine (sec2 w0 p s c en k i n w hr hU).mono ?_
 intro e w' hx
 show SecR w0 p s (MM p) en w (bd (rents (rimp s en) s en i) fun l j=>.ok ({ st with m:={ st.m with imports:=l } },j)) e w'
 cases hR:rents (rimp s en) s en i with
 | error z=>rw [hR] at hx;exact hx
 | ok v =>
  obtain ⟨l,j⟩:=v
  rw [hR] at hx
  obtain ⟨rfl,⟨v,hv,h2⟩,h3⟩:=hx
  obtain ⟨g,hG⟩:=hM.2.2.2
  obtain ⟨g',hg',hG'⟩:=hG.lt hr.lt
  exact ⟨rfl,⟨_,k,n,h2,hM.1,hM.2.1,hM.2.2.1,g',hG'.put_imports (Kp.but h3) hr.lt hg' hv⟩,But.t h3⟩
theorem secM4 {w0:World} {p:Nat} {s:ByteArray}:SecSays w0 p s (MM p) (secM s 4) 4:=by
 intro st c en k i n w hr hM
 refine (sec4 w0 p s c en k i n w hr).mono ?_
 intro e w' hx
 show SecR w0 p s (MM p) en w (bd (rents (rtab s en) s en i) fun l j=>.ok ({ st with m:={ st.m with tables:=l } },j)) e w'
 cases hR:rents (rtab s en) s en i with
 | error z=>rw [hR] at hx;exact hx
 | ok v =>
  obtain ⟨l,j⟩:=v
  rw [hR] at hx
  obtain ⟨rfl,⟨v,hv,h2⟩,h3⟩:=hx
  obtain ⟨g,hG⟩:=hM.2.2.2
  obtain ⟨g',hg',hG'⟩:=hG.lt hr.lt
  exact ⟨rfl,⟨_,k,n,h2,hM.1,hM.2.1,hM.2.2.1,g',hG'.put_tables (Kp.but h3) hr.lt hg' hv⟩,But.t h3⟩
theorem secM5 {w0:World} {p:Nat} {s:ByteArray}:SecSays w0 p s (MM p) (secM s 5) 5:=by
 intro st c en k i n w hr hM
 refine (sec5 w0 p s c en k i n w hr).mono ?_
 intro e w' hx
 show SecR w0 p s (MM p) en w (bd (rents (rlim s en) s en i) fun l j=>.ok ({ st with m:={ st.m with mems:=l } },j)) e w'
 cases hR:rents (rlim s en) s en i with
 | error z=>rw [hR] at hx;exact hx
 | ok v =>
  obtain ⟨l,j⟩:=v
  rw [hR] at hx
  obtain ⟨rfl,⟨v,hv,h2⟩,h3⟩:=hx
  obtain ⟨g,hG⟩:=hM.2.2.2
  obtain ⟨g',hg',hG'⟩:=hG.lt hr.lt
  exact ⟨rfl,⟨_,k,n,h2,hM.1,hM.2.1,hM.2.2.1,g',hG'.put_mems (Kp.but h3) hr.lt hg' hv⟩,But.t h3⟩
theorem secM6 {w0:World} {p:Nat} {s:ByteArray}:SecSays w0 p s (MM p) (secM s 6) 6:=by
 intro st c en k i n w hr hM
 refine (sec6 w0 p s c en k i n w hr 81).mono ?_
 intro e w' hx
 show SecR w0 p s (MM p) en w (bd (rents (rglo 81 s en) s en i) fun l j=>.ok ({ st with m:={ st.m with globals:=l } },j)) e w'
 cases hR:rents (rglo 81 s en) s en i with
 | error z=>rw [hR] at hx;exact hx
 | ok v =>
  obtain ⟨l,j⟩:=v
  rw [hR] at hx
  obtain ⟨rfl,⟨v,hv,h2⟩,h3⟩:=hx
  obtain ⟨g,hG⟩:=hM.2.2.2
  obtain ⟨g',hg',hG'⟩:=hG.lt hr.lt
  exact ⟨rfl,⟨_,k,n,h2,hM.1,hM.2.1,hM.2.2.1,g',hG'.put_globals (Kp.but h3) hr.lt hg' hv⟩,But.t h3⟩
theorem secM7 {w0:World} {p:Nat} {s:ByteArray} (hU:∀u,Below w0.heap.size w0 u->UtfI u):SecSays w0 p s (MM p) (secM s 7) 7:=by
 intro st c en k i n w hr hM
 refine (sec7 w0 p s c en k i n w hr hU).mono ?_
 intro e w' hx
 show SecR w0 p s (MM p) en w (bd (rents (rexp s en) s en i) fun l j=>.ok ({ st with m:={ st.m with exports:=l } },j)) e w'
 cases hR:rents (rexp s en) s en i with
 | error z=>rw [hR] at hx;exact hx
 | ok v =>
  obtain ⟨l,j⟩:=v
  rw [hR] at hx
  obtain ⟨rfl,⟨v,hv,h2⟩,h3⟩:=hx
  obtain ⟨g,hG⟩:=hM.2.2.2
  obtain ⟨g',hg',hG'⟩:=hG.lt hr.lt
  exact ⟨rfl,⟨_,k,n,h2,hM.1,hM.2.1,hM.2.2.1,g',hG'.put_exports (Kp.but h3) hr.lt hg' hv⟩,But.t h3⟩
theorem secM8 {w0:World} {p:Nat} {s:ByteArray}:SecSays w0 p s (MM p) (secM s 8) 8:=by
 intro st c en k i n w hr hM
 refine (sec8 w0 p s c en k i n w hr).mono ?_
 intro e w' hx
 show SecR w0 p s (MM p) en w (bd (rstart s en i) fun l j=>.ok ({ st with m:={ st.m with start:=l } },j)) e w'
 cases hR:rstart s en i with
 | error z=>rw [hR] at hx;exact hx
 | ok v =>
  obtain ⟨l,j⟩:=v
  rw [hR] at hx
  obtain ⟨rfl,⟨v,hv,h2⟩,h3⟩:=hx
  obtain ⟨g,hG⟩:=hM.2.2.2
  obtain ⟨g',hg',hG'⟩:=hG.lt hr.lt
  exact ⟨rfl,⟨_,k,n,h2,hM.1,hM.2.1,hM.2.2.1,g',hG'.put_start (Kp.but h3) hr.lt hg' hv⟩,But.t h3⟩
theorem secM9 {w0:World} {p:Nat} {s:ByteArray}:SecSays w0 p s (MM p) (secM s 9) 9:=by
 intro st c en k i n w hr hM
 refine (sec9 w0 p s c en k i n w hr 81).mono ?_
 intro e w' hx
 show SecR w0 p s (MM p) en w (bd (rents (relm 81 s en) s en i) fun l j=>.ok ({ st with m:={ st.m with elems:=l } },j)) e w'
 cases hR:rents (relm 81 s en) s en i with
 | error z=>rw [hR] at hx;exact hx
 | ok v =>
  obtain ⟨l,j⟩:=v
  rw [hR] at hx
  obtain ⟨rfl,⟨v,hv,h2⟩,h3⟩:=hx
  obtain ⟨g,hG⟩:=hM.2.2.2
  obtain ⟨g',hg',hG'⟩:=hG.lt hr.lt
  exact ⟨rfl,⟨_,k,n,h2,hM.1,hM.2.1,hM.2.2.1,g',hG'.put_elems (Kp.but h3) hr.lt hg' hv⟩,But.t h3⟩
theorem secM11 {w0:World} {p:Nat} {s:ByteArray}:SecSays w0 p s (MM p) (secM s 11) 11:=by
 intro st c en k i n w hr hM
 refine (sec11 w0 p s c en k i n w hr 81).mono ?_
 intro e w' hx
 show SecR w0 p s (MM p) en w (bd (rents (rdat 81 s en) s en i) fun l j=>.ok ({ st with m:={ st.m with datas:=l } },j)) e w'
 cases hR:rents (rdat 81 s en) s en i with
 | error z=>rw [hR] at hx;exact hx
 | ok v =>
  obtain ⟨l,j⟩:=v
  rw [hR] at hx
  obtain ⟨rfl,⟨v,hv,h2⟩,h3⟩:=hx
  obtain ⟨g,hG⟩:=hM.2.2.2
  obtain ⟨g',hg',hG'⟩:=hG.lt hr.lt
  exact ⟨rfl,⟨_,k,n,h2,hM.1,hM.2.1,hM.2.2.1,g',hG'.put_datas (Kp.but h3) hr.lt hg' hv⟩,But.t h3⟩
theorem secM3 {w0:World} {p:Nat} {s:ByteArray}:SecSays w0 p s (MM p) (secM s 3) 3:=by
 intro st c en k i n w hr hM
 refine (sec3 w0 p s c en k i n w hr).mono ?_
 intro e w' hx
 show SecR w0 p s (MM p) en w (bd (rents (rfty s en) s en i) fun l j=>.ok ({ st with m:={ st.m with funcs:=l.map tyFun } },j)) e w'
 cases hR:rents (rfty s en) s en i with
 | error z=>rw [hR] at hx;exact hx
 | ok v =>
  obtain ⟨l,j⟩:=v
  rw [hR] at hx
  obtain ⟨rfl,⟨v,hv,h2⟩,h3⟩:=hx
  obtain ⟨g,hG⟩:=hM.2.2.2
  obtain ⟨g',hG'⟩:=hG.put_funcs (Kp.but h3) hr.lt hv
  exact ⟨rfl,⟨_,k,n,h2,hM.1,hM.2.1,hM.2.2.1,g',hG'⟩,But.t h3⟩
end Go.Proofs.YtgbbmdknbflilaaDoor

namespace Go.Proofs.YtgbbmdknbflilaaDoor
open Go.RowKit Rep Dec
set_option linter.unusedVariables false
namespace Dec
theorem rfs_nb {s:ByteArray} {en:Nat}:∀(r:Nat) (l:List (List Int × IL 81)) (i n:Nat) (fs:List (List Int × IL 81)) (j m:Nat),n<=65536->rfs s en r l i n=.ok (fs,j,m)->m<=65536
 | 0,l,i,n,fs,j,m,hn,h=>by cases h;exact hn
 | r+1,l,i,n,fs,j,m,hn,h=>by
  rw [rfs_step] at h
  obtain ⟨x,j1,n1,h1,h2⟩:=bd2_in h
  exact rfs_nb r _ _ _ _ _ _ (rsizedF_nb hn h1) h2
theorem rcode_nb {s:ByteArray} {en L i n:Nat} {fs:List (List Int × IL 81)} {j m:Nat} (hn:n<=65536) (h:rcode s en L i n=.ok (fs,j,m)):m<=65536:=by
 unfold rcode at h
 obtain ⟨z,j1,n1,h1,h2⟩:=bd2_in h
 have e:=(lift_in h1).2
 by_cases hz:z=(L:Int)
 ·rw [if_pos hz] at h2;exact rfs_nb _ _ _ _ _ _ _ (by omega) h2
 ·rw [if_neg hz] at h2;cases h2
theorem MG.code {p g:Nat} {m:Mod 81} {c:Nat->Value} {w w':World} (h:MG p g m c w) (hb:Bu2 p g w w') (hp:p<w.heap.size) {fs:List (List Int × IL 81)} (hl:fs.length=m.funcs.length)
  {o:Option Addr} {ob cap:Nat} {ty:Nat->Int} {a b:Nat->Value} (h1:c 2=.slice o m.funcs.length cap) (h2:0<m.funcs.length->o=some ⟨g,ob,none⟩/\FB g ob m.funcs.length ty a b w/\p<g) (h3:∀j f,m.funcs[j]?=some f->ty j=f.type)
  (hf:0<m.funcs.length->∃a' b',FB g ob m.funcs.length ty a' b' w'/\∀q x,fs[q]?=some x->IntsS w' (Since w.heap.size w' none) (a' q) x.1/\AtS w' (Since w.heap.size w' none) 81 (b' q) x.2) :
  MG p g { m with funcs:=List.zipWith codeFun m.funcs fs } c w':=by
 have hs:∀k,Sm p g w k->Sm p g w' k/\w'.heap[k]?=w.heap[k]?:=fun k hk=>⟨⟨hk.1,Nat.lt_of_lt_of_le hk.2.1 hb.size,hk.2.2⟩,hb.block k hk.2.1 (by have:=hk.1;omega) hk.2.2⟩
 have hlen:(List.zipWith codeFun m.funcs fs).length=m.funcs.length:=by rw [List.length_zipWith,hl,Nat.min_self]
 refine ⟨RowS.keep aFT_keep hs h.types,RowS.keep aImp_keep hs h.imports,RowS.keep aLim_keep hs h.tables,RowS.keep aLim_keep hs h.mems,RowS.keep (aGlo_keep 81) hs h.globals,RowS.keep aExp_keep hs h.exports,RowS.keep aInt_keep hs h.start,RowS.keep (aElm_keep 81) hs h.elems,RowS.keep (aDat_keep 81) hs h.datas,?_⟩
 by_cases h0:0<m.funcs.length
 ·obtain ⟨rfl,hFB,hpg⟩:=h2 h0
  have hgw:=hFB.lt
  obtain ⟨a',b',hFB',hx⟩:=hf h0
  refine ⟨_,ob,cap,ty,a',b',by rw [hlen];exact h1,fun _=>⟨rfl,by rw [hlen];exact hFB',hpg⟩,fun j f hj=>?_⟩
  have hj:(List.zipWith codeFun m.funcs fs)[j]?=some f:=hj
  rw [List.getElem?_zipWith] at hj
  cases hm:m.funcs[j]? with
  | none=>rw [hm] at hj;cases hj
  | some f0 =>
   cases hq:fs[j]? with
   | none=>rw [hm,hq] at hj;cases hj
   | some x =>
    rw [hm,hq] at hj
    have hj:codeFun f0 x=f:=by simpa using hj
    subst hj
    obtain ⟨i1,a1⟩:=hx j x hq
    exact ⟨h3 j f0 hm,i1.keep (new_sm hp hgw),AtS.keep (new_sm hp hgw) _ _ _ a1⟩
 ·have hn:m.funcs = []:=List.length_eq_zero_iff.1 (by omega)
  refine ⟨o,ob,cap,ty,a,b,by rw [hlen];exact h1,fun h=>absurd h (by rw [hlen];exact h0),fun j f hj=>?_⟩
  have hj:(List.zipWith codeFun m.funcs fs)[j]?=some f:=hj
  rw [hn] at hj
  simp at hj
theorem MG.none_ {p g:Nat} {m:Mod 81} {c:Nat->Value} {w:World} (h:MG p g m c w) (h0:¬ 0<m.funcs.length):MG p p m c w:=by
 have hs:∀k,Sm p g w k->Sm p p w k/\w.heap[k]?=w.heap[k]?:=fun k hk=>⟨⟨hk.1,hk.2.1,by have:=hk.1;omega⟩,rfl⟩
 refine ⟨RowS.keep aFT_keep hs h.types,RowS.keep aImp_keep hs h.imports,RowS.keep aLim_keep hs h.tables,RowS.keep aLim_keep hs h.mems,RowS.keep (aGlo_keep 81) hs h.globals,RowS.keep aExp_keep hs h.exports,RowS.keep aInt_keep hs h.start,RowS.keep (aElm_keep 81) hs h.elems,RowS.keep (aDat_keep 81) hs h.datas,?_⟩
 obtain ⟨o,ob,cap,ty,a,b,h1,h2,h3⟩:=h.funcs
 refine ⟨o,ob,cap,ty,a,b,h1,fun h=>absurd h h0,fun j f hj=>?_⟩
 have hn:m.funcs = []:=List.length_eq_zero_iff.1 (by omega)
 rw [hn] at hj
 simp at hj
end Dec
theorem secM10 {w0:World} {p:Nat} {s:ByteArray}:SecSays w0 p s (MM p) (secM s 10) 10:=by
 intro st c en k i n w hr hM
 obtain ⟨hk,hn,hn2,g,hG⟩:=hM
 have fin:∀g,MG p g st.m c w->(0<st.m.funcs.length\/g=p)->Calls Tryd.prog 17 #[.pointer (some ⟨p,0,none⟩),.int .i64 10] w (SecR w0 p s (MM p) en w (secM s 10 st en i)):=by
  intro g hG hor
  obtain ⟨o,ob,cap,ty,a,b,h1,h2,h3⟩:=hG.funcs
  have hbase:=hr.base
  refine (sec10 w0 p s c en k i n g ob st.m.funcs.length cap o ty a b w hr hn2 h1 (fun h0=>⟨(h2 h0).1,(h2 h0).2.1,by have:=(h2 h0).2.2;omega,by have:=(h2 h0).2.2;omega⟩)).mono ?_
  intro e w' hx
  show SecR w0 p s (MM p) en w (match rcode s en st.m.funcs.length i st.cnt with
   | .ok (fs,j,n)=>.ok (⟨{ st.m with funcs:=List.zipWith codeFun st.m.funcs fs },st.m.funcs.length,n⟩,j)
   | .error z=>.error z) e w'
  rw [<- hn]
  cases hR:rcode s en st.m.funcs.length i n with
  | error z=>rw [hR] at hx;exact hx
  | ok v =>
   obtain ⟨fs,j,m⟩:=v
   rw [hR] at hx
   obtain ⟨rfl,⟨hrs,hl,hfb⟩,hb⟩:=hx
   refine ⟨rfl,⟨c,_,m,hrs,rfl,rfl,rcode_nb hn2 hR,g,?_⟩,?_⟩
   ·exact hG.code hb hr.lt hl h1 h2 (fun j f hj=>(h3 j f hj).1) hfb
   ·rcases hor with h0|rfl
    ·exact hb.t (h2 h0).2.1
    ·exact ⟨hb.os,hb.tape,hb.output,hb.size,fun k hk hp _=>hb.block k hk hp hp⟩
 by_cases h0:0<st.m.funcs.length
 ·exact fin g hG (.inl h0)
 ·exact fin p (hG.none_ h0) (.inr rfl)
end Go.Proofs.YtgbbmdknbflilaaDoor

namespace Go.Proofs.YtgbbmdknbflilaaDoor
open Go.RowKit Rep Dec
set_option linter.unusedVariables false
namespace Dec
def okM (id:Int):Bool:=decide (0<=id/\id<=11)
def noM:Mod 81:=⟨[],[],[],[],[],[],[],[],[],[]⟩
def sg0:Sg:=⟨noM,0,0⟩
def flM (st:Sg):Nat:=st.m.funcs.length
def rsecsM (s:ByteArray):Nat->Int->Sg->Nat->Option (R Sg):=rsecs (secM s) okM Sg.codes flM s s.size
theorem rsecsM_some (s:ByteArray):∀(f:Nat) (last:Int) (st:Sg) (i:Nat),s.size-i<f->∃X,rsecsM s f last st i=some X
 | 0,last,st,i,h=>by omega
 | f+1,last,st,i,h=>by
  unfold rsecsM rsecs
  by_cases hi:i<s.size
  ·rw [if_pos hi]
   have hn:nx s s.size i=.ok (Leb.bt s i,i+1):=by unfold nx;rw [if_pos hi]
   have hb:=Leb.bt_bd s i
   rw [hn]
   simp only []
   by_cases h1:11<Leb.bt s i
   ·rw [if_pos h1];exact ⟨_,rfl⟩
   ·rw [if_neg h1]
    by_cases h2:Leb.bt s i≠0/\¬ last<Leb.bt s i
    ·rw [if_pos h2];exact ⟨_,rfl⟩
    ·rw [if_neg h2,if_pos (show okM (Leb.bt s i)=true from decide_eq_true ⟨by omega,by omega⟩)]
     cases hz:rsized (secM s (Leb.bt s i)) s st s.size (i+1) with
     | error z=>exact ⟨_,rfl⟩
     | ok v =>
      obtain ⟨st',m⟩:=v
      have:=rsized_gt (Nat.le_refl _) hz
      exact rsecsM_some s f _ st' m (by omega)
  ·rw [if_neg hi];exact ⟨_,rfl⟩
def rdec (s:ByteArray):R Sg:=if 262144<s.size then .error 2 else if pfx s=false then .error 50 else (rsecsM s (s.size+1) 0 sg0 8).getD (.error 50)
theorem rdec_some (s:ByteArray):(if 262144<s.size then some (.error 2) else if pfx s=false then some (.error 50) else rsecs (secM s) okM Sg.codes flM s s.size (s.size+1) 0 sg0 8)=some (rdec s):=by
 unfold rdec
 split
 ·rfl
 split
 ·rfl
 ·obtain ⟨X,hX⟩:=rsecsM_some s (s.size+1) 0 sg0 8 (by omega)
  have hX':rsecs (secM s) okM Sg.codes flM s s.size (s.size+1) 0 sg0 8=some X:=hX
  rw [hX,hX']
  rfl
theorem rowS_nil {α:Type} (n:Nat) (F:EA α) (w:World) (S:Nat->Prop):RowS n F w S (.slice none 0 0) []:=⟨by simp,.inl ⟨rfl,none,0,rfl⟩⟩
theorem MM_start (p:Nat) (w:World):MM p sg0 (fun _=>.slice none 0 0) 0 0 w :=
 ⟨rfl,rfl,by omega,0,rowS_nil _ _ _ _,rowS_nil _ _ _ _,rowS_nil _ _ _ _,rowS_nil _ _ _ _,rowS_nil _ _ _ _,rowS_nil _ _ _ _,rowS_nil _ _ _ _,rowS_nil _ _ _ _,rowS_nil _ _ _ _,none,0,0,fun _=>0,fun _=>.slice none 0 0,fun _=>.slice none 0 0,rfl,fun h=>absurd h (by decide),fun j f hj=>by simp [sg0,noM] at hj⟩
theorem row_slice {α:Type} {n:Nat} {F:EA α} {w:World} {S:Nat->Prop} {v:Value} {l:List α} (h:RowS n F w S v l):∃o n k,v=.slice o n k:=by
 obtain ⟨o,k,e⟩:=Row.len h
 exact ⟨o,_,k,e⟩
theorem MM_form (p:Nat) (st:Sg) (c:Nat->Value) (k n:Nat) (w:World) (h:MM p st c k n w):(k=st.codes/\∃o cap,c 2=.slice o (flM st) cap)/\∀j,j<10->∃o n k,c j=.slice o n k:=by
 obtain ⟨h1,h2,h3,g,hG⟩:=h
 obtain ⟨o,ob,cap,ty,a,b,e,_⟩:=hG.funcs
 refine ⟨⟨h1,o,cap,e⟩,fun j hj=>?_⟩
 match j,hj with
 | 0,_=>exact row_slice hG.types
 | 1,_=>exact row_slice hG.imports
 | 2,_=>exact ⟨o,_,cap,e⟩
 | 3,_=>exact row_slice hG.tables
 | 4,_=>exact row_slice hG.mems
 | 5,_=>exact row_slice hG.globals
 | 6,_=>exact row_slice hG.exports
 | 7,_=>exact row_slice hG.start
 | 8,_=>exact row_slice hG.elems
 | 9,_=>exact row_slice hG.datas
end Dec
theorem secAll {w0:World} {p:Nat} {s:ByteArray} (hU:∀u,Below w0.heap.size w0 u->UtfI u) {id:Int} (h:okM id=true):SecSays w0 p s (MM p) (secM s id) id:=by
 have h:=of_decide_eq_true h
 have hc:id=0\/id=1\/id=2\/id=3\/id=4\/id=5\/id=6\/id=7\/id=8\/id=9\/id=10\/id=11:=by omega
 rcases hc with rfl|rfl|rfl|rfl|rfl|rfl|rfl|rfl|rfl|rfl|rfl|rfl
 ·exact secM0 hU
 ·exact secM1
 ·exact secM2 hU
 ·exact secM3
 ·exact secM4
 ·exact secM5
 ·exact secM6
 ·exact secM7 hU
 ·exact secM8
 ·exact secM9
 ·exact secM10
 ·exact secM11
theorem dDecodeM (s:ByteArray) (w:World) (hs:s.size<=4611686018427387904) (hU:UtfI w):Calls Tryd.prog 5 #[.string s] w (DSays MM w (rdec s)) :=
 dDecode (M:=MM) (sec:=secM s) (ok:=okM) (cd:=Sg.codes) (fl:=flM) (st0:=sg0) s w hs MM_keeps (fun w0 p id hb hid=>secAll (fun u hu=>utfI_go hU (below_go' hb hu)) hid) MM_form MM_start (s.size+1) (rdec s) (rdec_some s)
end Go.Proofs.YtgbbmdknbflilaaDoor

