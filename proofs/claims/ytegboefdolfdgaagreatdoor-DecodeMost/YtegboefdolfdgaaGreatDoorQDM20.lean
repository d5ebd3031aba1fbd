/- Texts that the claim needs. -/
import Derived.Test.YtegboefdolfdgaaGreatDoorQDM19
namespace Go.Proofs.YtegboefdolfdgaaGreatDoor
open Go.RowKit aA ai
set_option linter.unusedVariables false
set_option maxRecDepth 100000
set_option maxHeartbeats 4000000
namespace ai
def uP:EA FT:=fun w S g o x=>(∃v,w.cell? ⟨g,o,none⟩=some v/\aH w S v x.params)/\∃v,w.cell? ⟨g,o+1,none⟩=some v/\aH w S v x.results
def uR:EA lK:=fun w _ g o x=>qO w g o x
def uS:EA Int:=fun w _ g o x=>(∃cur,w.heap[g]?=some (.cells cur 68 (0,0)))/\w.cell? ⟨g,o,none⟩=some (.int .i64 x)/\w.cell? ⟨g,o+1,none⟩=some (.slice none 0 0)/\w.cell? ⟨g,o+2,none⟩=some (.slice none 0 0)
def om:EA iL:=fun w _ g o x=>oK w g o x
def uU:EA lM:=fun w _ g o x=>qP w g o x
def uW (d:Nat):EA (lL d):=fun w S g o x=>w.cell? ⟨g,o,none⟩=some (.int .i64 x.type)/\w.cell? ⟨g,o+1,none⟩=some (.bool x.fT)/\tq w S (ah w S d) g (o+2) x.init
def uY (d:Nat):EA (kZ d):=fun w S g o x=>tq w S (ah w S d) g o x.offset/\∃v,w.cell? ⟨g,o+7,none⟩=some v/\aH w S v x.funcs
def ve (d:Nat):EA (Dat d):=fun w S g o x=>tq w S (ah w S d) g o x.offset/\w.cell? ⟨g,o+7,none⟩=some (.string x.bytes)
theorem jB {α:Type} (C:α->List Value):dH (xU C):=fun w w' S S' hk x vs h=>h
theorem Bf:dH gL:=fun w w' S S' hk x vs ⟨a,b,h,h1,h2⟩=>⟨a,b,h,h1.keep hk,h2.keep hk⟩
theorem FM {e:TypeId}:jT e gL uP:=fun w S g o x vs ⟨a,b,h,h1,h2⟩ hg hc=>by subst h;exact ⟨⟨_,hc 0 _ rfl,h1⟩,_,hc 1 _ rfl,h2⟩
theorem FN {e:TypeId}:jT e iX uR:=fun w S g o x vs h hg hc=>by
 have h:vs = [.string x.mod,.string x.name,.int .i64 x.type]:=h;subst h;exact ⟨hc 0 _ rfl,hc 1 _ rfl,hc 2 _ rfl⟩
theorem FO:jT 68 gW uS:=fun w S g o x vs h hg hc=>by
 have h:vs = [.int .i64 x,.slice none 0 0,.slice none 0 0]:=h;subst h;exact ⟨hg,hc 0 _ rfl,hc 1 _ rfl,hc 2 _ rfl⟩
theorem Bg {e:TypeId}:jT e cH om:=fun w S g o x vs h hg hc=>by
 have h:vs = [.int .i64 x.min,.int .i64 x.max,.bool x.has]:=h;subst h;exact ⟨hc 0 _ rfl,hc 1 _ rfl,hc 2 _ rfl⟩
theorem FP {e:TypeId}:jT e iY uU:=fun w S g o x vs h hg hc=>by
 have h:vs = [.string x.name,.int .i64 x.kind,.int .i64 x.index]:=h;subst h;exact ⟨hc 0 _ rfl,hc 1 _ rfl,hc 2 _ rfl⟩
theorem CK (d:Nat) {w:World} {S:Nat->Prop} {g o:Nat} {x:Ins (IL d)} {vs:List Value} (h:oL d w S x vs) (hc:∀k v,vs[k]?=some v->w.cell? ⟨g,o+k,none⟩=some v):tq w S (ah w S d) g o x:=by
 obtain ⟨a,b,c,h,h1,h2,h3⟩:=h;subst h;exact ⟨hc 0 _ rfl,hc 1 _ rfl,hc 2 _ rfl,hc 3 _ rfl,⟨_,hc 4 _ rfl,h1⟩,⟨_,hc 5 _ rfl,h2⟩,⟨_,hc 6 _ rfl,h3⟩⟩
theorem FQ {d:Nat} {w:World} {S:Nat->Prop} {x:Ins (IL d)} {vs:List Value} (h:oL d w S x vs):vs.length=7:=by
 obtain ⟨a,b,c,h,_⟩:=h;subst h;rfl
theorem FR {e:TypeId} (d:Nat):jT e (iQ d) (uW d):=fun w S g o x vs ⟨v7,h,h1⟩ hg hc=>by
 subst h
 exact ⟨hc 0 _ rfl,hc 1 _ rfl,CK d h1 fun k v hv=>by
  have:=hc (k+2) v (by simpa using hv)
  rw [Nat.add_assoc,Nat.add_comm 2 k];exact this⟩
theorem FU {e:TypeId} (d:Nat):jT e (fW d) (uY d):=fun w S g o x vs ⟨v7,l,h,h1,h2⟩ hg hc=>by
 have h7:=FQ h1;subst h;refine ⟨CK d h1 fun k v hv=>hc k v ?_,l,hc 7 l ?_,h2⟩
 ·rw [List.getElem?_append_left (List.getElem?_eq_some_iff.1 hv).1];exact hv
 ·rw [List.getElem?_append_right (by omega),h7];rfl
theorem FV {e:TypeId} (d:Nat):jT e (gb d) (ve d):=fun w S g o x vs ⟨v7,h,h1⟩ hg hc=>by
 have h7:=FQ h1;subst h;refine ⟨CK d h1 fun k v hv=>hc k v ?_,hc 7 _ ?_⟩
 ·rw [List.getElem?_append_left (List.getElem?_eq_some_iff.1 hv).1];exact hv
 ·rw [List.getElem?_append_right (by omega),h7];rfl
end ai
section
variable (w0:World) (p:Nat) (s:ByteArray) (c:Nat->Value) (en k i n:Nat) (w:World) (h:RS w0 p s c en k i n w)
include h
theorem NA:Calls Tryz.prog 37 #[.pointer (some ⟨p,0,none⟩),.func (.func 38) #[.pointer (some ⟨p,0,none⟩)] #[]] w (bw w0 p s c en k n (fun l v u=>aI 2 uP u (Since w.heap.size u none) v l) w (aV (ku s en) s en i)) :=
 NY (ku s en) gL uP Bf FM w0 p s c en k i n w h fun j u hu=>NZ w0 p s c en k j n u hu
theorem NF:Calls Tryz.prog 41 #[.pointer (some ⟨p,0,none⟩),.func (.func 42) #[.pointer (some ⟨p,0,none⟩)] #[]] w (bw w0 p s c en k n (fun l v u=>aI 3 uS u (Since w.heap.size u none) v l) w (aV (lW s en) s en i)) :=
 N7 (lW s en) gW uS (jB _) FO w0 p s c en k i n w h fun j u hu=>N8 w0 p s c en k j n u hu
theorem NH:Calls Tryz.prog 43 #[.pointer (some ⟨p,0,none⟩),.func (.func 44) #[.pointer (some ⟨p,0,none⟩)] #[]] w (bw w0 p s c en k n (fun l v u=>aI 3 om u (Since w.heap.size u none) v l) w (aV (lX s en) s en i)) :=
 N9 (lX s en) cH om (jB _) Bg w0 p s c en k i n w h fun j u hu=>Oa w0 p s c en k j n u hu
theorem NJ:Calls Tryz.prog 43 #[.pointer (some ⟨p,0,none⟩),.func (.func 45) #[.pointer (some ⟨p,0,none⟩)] #[]] w (bw w0 p s c en k n (fun l v u=>aI 3 om u (Since w.heap.size u none) v l) w (aV (iz s en) s en i)) :=
 Ob (iz s en) cH om (jB _) Bg w0 p s c en k i n w h fun j u hu=>FW w0 p s c en k j n u hu
theorem NL (d:Nat):Calls Tryz.prog 46 #[.pointer (some ⟨p,0,none⟩),.func (.func 47) #[.pointer (some ⟨p,0,none⟩)] #[]] w (bw w0 p s c en k n (fun l v u=>aI 9 (uW d) u (Since w.heap.size u none) v l) w (aV (jR d s en) s en i)) :=
 Oc (jR d s en) (iQ d) (uW d) (Bh d) (FR d) w0 p s c en k i n w h fun j u hu=>Od w0 p s c en k j n u hu d
theorem NQ (d:Nat):Calls Tryz.prog 50 #[.pointer (some ⟨p,0,none⟩),.func (.func 51) #[.pointer (some ⟨p,0,none⟩)] #[]] w (bw w0 p s c en k n (fun l v u=>aI 8 (uY d) u (Since w.heap.size u none) v l) w (aV (lj d s en) s en i)) :=
 Oe (lj d s en) (fW d) (uY d) (A7 d) (FU d) w0 p s c en k i n w h fun j u hu=>Og w0 p s c en k j n u hu d
theorem NS (d:Nat):Calls Tryz.prog 53 #[.pointer (some ⟨p,0,none⟩),.func (.func 54) #[.pointer (some ⟨p,0,none⟩)] #[]] w (bw w0 p s c en k n (fun l v u=>aI 8 (ve d) u (Since w.heap.size u none) v l) w (aV (lq d s en) s en i)) :=
 Oh (lq d s en) (gb d) (ve d) (A8 d) (FV d) w0 p s c en k i n w h fun j u hu=>Oi w0 p s c en k j n u hu d
variable (hU:∀u,Below w0.heap.size w0 u->iW u)
include hU
theorem NC:Calls Tryz.prog 39 #[.pointer (some ⟨p,0,none⟩),.func (.func 40) #[.pointer (some ⟨p,0,none⟩)] #[]] w (bw w0 p s c en k n (fun l v u=>aI 3 uR u (Since w.heap.size u none) v l) w (aV (jv s en) s en i)) :=
 Oj (jv s en) iX uR (jB _) FN w0 p s c en k i n w h fun j u hu=>Ol w0 p s c en k j n u hu hU
theorem NN:Calls Tryz.prog 48 #[.pointer (some ⟨p,0,none⟩),.func (.func 49) #[.pointer (some ⟨p,0,none⟩)] #[]] w (bw w0 p s c en k n (fun l v u=>aI 3 uU u (Since w.heap.size u none) v l) w (aV (jw s en) s en i)) :=
 Om (jw s en) iY uU (jB _) FP w0 p s c en k i n w h fun j u hu=>Oo w0 p s c en k j n u hu hU
end
namespace ai
def ql {α:Type} (F:EA α):Prop:=∀(w w':World) (S S':Nat->Prop),(∀k,S k->S' k/\w'.heap[k]?=w.heap[k]?)->∀g o x,S g->F w S g o x->F w' S' g o x
theorem aI.keep {α:Type} {F:EA α} (hF:ql F) {n:Nat} {w w':World} {S S':Nat->Prop} (hk:∀k,S k->S' k/\w'.heap[k]?=w.heap[k]?) {v:Value} {l:List α} (h:aI n F w S v l):aI n F w' S' v l :=
 Row.imp h fun b _ _ _ h=>⟨(hk b h.1).1,hF _ _ _ _ hk _ _ _ h.1 h.2⟩
theorem CE {d:Nat} {w w':World} {S S':Nat->Prop} (hk:∀k,S k->S' k/\w'.heap[k]?=w.heap[k]?) {g o:Nat} {x:Ins (IL d)} (hb:S g) (h:tq w S (ah w S d) g o x):tq w' S' (ah w' S' d) g o x :=
 ⟨dE hk hb h.op,dE hk hb h.a,dE hk hb h.b,dE hk hb h.n,let ⟨v,a,c⟩:=h.labels;⟨v,dE hk hb a,c.keep hk⟩,let ⟨v,a,c⟩:=h.body;⟨v,dE hk hb a,ah.keep hk _ _ _ c⟩,let ⟨v,a,c⟩:=h.els;⟨v,dE hk hb a,ah.keep hk _ _ _ c⟩⟩
theorem uO:ql uP:=fun w w' S S' hk g o x hb ⟨⟨v,a,b⟩,u,c,d⟩=>⟨⟨v,dE hk hb a,b.keep hk⟩,u,dE hk hb c,d.keep hk⟩
theorem uQ:ql uR:=fun w w' S S' hk g o x hb h=>⟨dE hk hb h.mod,dE hk hb h.name,dE hk hb h.type⟩
theorem Nn:ql uS:=fun w w' S S' hk g o x hb h=>⟨by obtain ⟨cur,hc⟩:=h.1;exact ⟨cur,by rw [(hk g hb).2];exact hc⟩,dE hk hb h.2.1,dE hk hb h.2.2.1,dE hk hb h.2.2.2⟩
theorem mY:ql om:=fun w w' S S' hk g o x hb h=>⟨dE hk hb h.min,dE hk hb h.max,dE hk hb h.has⟩
theorem uT:ql uU:=fun w w' S S' hk g o x hb h=>⟨dE hk hb h.name,dE hk hb h.kind,dE hk hb h.index⟩
theorem uV (d:Nat):ql (uW d):=fun w w' S S' hk g o x hb h=>⟨dE hk hb h.1,dE hk hb h.2.1,CE hk hb h.2.2⟩
theorem uX (d:Nat):ql (uY d):=fun w w' S S' hk g o x hb ⟨h,v,a,b⟩=>⟨CE hk hb h,v,dE hk hb a,b.keep hk⟩
theorem uZ (d:Nat):ql (ve d):=fun w w' S S' hk g o x hb h=>⟨CE hk hb h.1,dE hk hb h.2⟩
def upd (c:Nat->Value) (f:Nat) (v:Value):Nat->Value:=fun q=>if q=f then v else c q
def qm {α:Type} (w0:World) (p:Nat) (s:ByteArray) (c:Nat->Value) (en k n f width:Nat) (F:EA α) (w:World) (x:R (List α)) (e:Ending) (w':World):Prop :=
 match x with
 | .ok (l,j)=>e=.returned (.tuple #[])/\(∃v,aI width F w' (Since w.heap.size w' none) v l/\RS w0 p s (upd c f v) en k j n w')/\But p w w'
 | .error z=>e=.panicked (gave z)/\Below w0.heap.size w0 w'
theorem qq (w u:World) {p:Nat} (hp:p<w.heap.size) (j:Nat) (v:Value):∀k,Since w.heap.size u none k->Since w.heap.size (u.setCell ⟨p,j,none⟩ v) none k/\(u.setCell ⟨p,j,none⟩ v).heap[k]?=u.heap[k]?:=fun k hk =>
 ⟨⟨hk.1,by simpa using hk.2.1,by simp⟩,Below.heap_setCell _ _ _ _ (by have:=hk.1;show k≠p;omega)⟩
theorem RS.Np {w0 w:World} {p:Nat} {s:ByteArray} {c:Nat->Value} {en k i n:Nat} (h:RS w0 p s c en k i n w) (v:Value):RS w0 p s (upd c 0 v) en k i n (w.setCell ⟨p,3,none⟩ v) :=
 ⟨h.below.setCell h.base _,h.base,heap_setCell_same w p 3 _ _ _ h.blk,h.le,h.len,h.big⟩
theorem RS.Nq {w0 w:World} {p:Nat} {s:ByteArray} {c:Nat->Value} {en k i n:Nat} (h:RS w0 p s c en k i n w) (v:Value):RS w0 p s (upd c 1 v) en k i n (w.setCell ⟨p,4,none⟩ v) :=
 ⟨h.below.setCell h.base _,h.base,heap_setCell_same w p 4 _ _ _ h.blk,h.le,h.len,h.big⟩
theorem RS.Nr {w0 w:World} {p:Nat} {s:ByteArray} {c:Nat->Value} {en k i n:Nat} (h:RS w0 p s c en k i n w) (v:Value):RS w0 p s (upd c 2 v) en k i n (w.setCell ⟨p,5,none⟩ v) :=
 ⟨h.below.setCell h.base _,h.base,heap_setCell_same w p 5 _ _ _ h.blk,h.le,h.len,h.big⟩
theorem RS.Ns {w0 w:World} {p:Nat} {s:ByteArray} {c:Nat->Value} {en k i n:Nat} (h:RS w0 p s c en k i n w) (v:Value):RS w0 p s (upd c 3 v) en k i n (w.setCell ⟨p,6,none⟩ v) :=
 ⟨h.below.setCell h.base _,h.base,heap_setCell_same w p 6 _ _ _ h.blk,h.le,h.len,h.big⟩
theorem RS.Nt {w0 w:World} {p:Nat} {s:ByteArray} {c:Nat->Value} {en k i n:Nat} (h:RS w0 p s c en k i n w) (v:Value):RS w0 p s (upd c 4 v) en k i n (w.setCell ⟨p,7,none⟩ v) :=
 ⟨h.below.setCell h.base _,h.base,heap_setCell_same w p 7 _ _ _ h.blk,h.le,h.len,h.big⟩
theorem RS.Nu {w0 w:World} {p:Nat} {s:ByteArray} {c:Nat->Value} {en k i n:Nat} (h:RS w0 p s c en k i n w) (v:Value):RS w0 p s (upd c 5 v) en k i n (w.setCell ⟨p,8,none⟩ v) :=
 ⟨h.below.setCell h.base _,h.base,heap_setCell_same w p 8 _ _ _ h.blk,h.le,h.len,h.big⟩
theorem RS.Nv {w0 w:World} {p:Nat} {s:ByteArray} {c:Nat->Value} {en k i n:Nat} (h:RS w0 p s c en k i n w) (v:Value):RS w0 p s (upd c 6 v) en k i n (w.setCell ⟨p,9,none⟩ v) :=
 ⟨h.below.setCell h.base _,h.base,heap_setCell_same w p 9 _ _ _ h.blk,h.le,h.len,h.big⟩
theorem RS.Nw {w0 w:World} {p:Nat} {s:ByteArray} {c:Nat->Value} {en k i n:Nat} (h:RS w0 p s c en k i n w) (v:Value):RS w0 p s (upd c 7 v) en k i n (w.setCell ⟨p,10,none⟩ v) :=
 ⟨h.below.setCell h.base _,h.base,heap_setCell_same w p 10 _ _ _ h.blk,h.le,h.len,h.big⟩
theorem RS.Ny {w0 w:World} {p:Nat} {s:ByteArray} {c:Nat->Value} {en k i n:Nat} (h:RS w0 p s c en k i n w) (v:Value):RS w0 p s (upd c 8 v) en k i n (w.setCell ⟨p,11,none⟩ v) :=
 ⟨h.below.setCell h.base _,h.base,heap_setCell_same w p 11 _ _ _ h.blk,h.le,h.len,h.big⟩
theorem RS.Nz {w0 w:World} {p:Nat} {s:ByteArray} {c:Nat->Value} {en k i n:Nat} (h:RS w0 p s c en k i n w) (v:Value):RS w0 p s (upd c 9 v) en k i n (w.setCell ⟨p,12,none⟩ v) :=
 ⟨h.below.setCell h.base _,h.base,heap_setCell_same w p 12 _ _ _ h.blk,h.le,h.len,h.big⟩
end ai
section
variable (w0:World) (p:Nat) (s:ByteArray) (c:Nat->Value) (en k i n:Nat) (w:World) (h:RS w0 p s c en k i n w)
include h
theorem FK:Calls Tryz.prog 28 #[.pointer (some ⟨p,0,none⟩),.int .i64 1] w (qm w0 p s c en k n 0 2 uP w (aV (ku s en) s en i)):=by
 have HC:=aa (NA w0 p s c en k i n w h);have hpw:=h.lt;clear h;generalize aV (ku s en) s en i=R at HC ⊢;go_enter Tryz.func28,Tryz.ntmps28;go_wp2_with fail;refine HC.out.mono ?_;intro e u hr;cases R with
 | error z =>
  obtain ⟨rfl,hb⟩:=hr;exact ⟨rfl,rfl,hb⟩
 | ok v =>
  obtain ⟨l,j⟩:=v;obtain ⟨⟨v,rfl,hv⟩,h1,h2⟩:=hr;obtain ⟨oV,kV,rfl⟩:=Row.len hv;have HV:=aa (aI.keep (uO) (qq w u hpw 3 (.slice oV l.length kV)) hv);have HR:=aa (h1.Np (.slice oV l.length kV));have HB:=aa (h2.trans (But.set p 3 u (.slice oV l.length kV)));have c3:=h1.cell 3 _ rfl;have f3:=h1.ag 3;clear hv h1 h2 HC;generalize l.length=nl at *;go_wp2;go_end0;exact ⟨rfl,⟨_,HV.out,HR.out⟩,HB.out⟩
theorem NB (hU:∀u,Below w0.heap.size w0 u->iW u):Calls Tryz.prog 28 #[.pointer (some ⟨p,0,none⟩),.int .i64 2] w (qm w0 p s c en k n 1 3 uR w (aV (jv s en) s en i)):=by
 have HC:=aa (NC w0 p s c en k i n w h hU);have hpw:=h.lt;clear h hU;generalize aV (jv s en) s en i=R at HC ⊢;go_enter Tryz.func28,Tryz.ntmps28;go_wp2_with fail;refine HC.out.mono ?_;intro e u hr;cases R with
 | error z =>
  obtain ⟨rfl,hb⟩:=hr;exact ⟨rfl,rfl,hb⟩
 | ok v =>
  obtain ⟨l,j⟩:=v;obtain ⟨⟨v,rfl,hv⟩,h1,h2⟩:=hr;obtain ⟨oV,kV,rfl⟩:=Row.len hv;have HV:=aa (aI.keep (uQ) (qq w u hpw 4 (.slice oV l.length kV)) hv);have HR:=aa (h1.Nq (.slice oV l.length kV));have HB:=aa (h2.trans (But.set p 4 u (.slice oV l.length kV)));have c4:=h1.cell 4 _ rfl;have f4:=h1.ag 4;clear hv h1 h2 HC;generalize l.length=nl at *;go_wp2;go_end0;exact ⟨rfl,⟨_,HV.out,HR.out⟩,HB.out⟩
theorem ND:Calls Tryz.prog 28 #[.pointer (some ⟨p,0,none⟩),.int .i64 3] w (qm w0 p s c en k n 2 3 uS w (aV (lW s en) s en i)):=by
 have HC:=aa (NF w0 p s c en k i n w h);have hpw:=h.lt;clear h;generalize aV (lW s en) s en i=R at HC ⊢;go_enter Tryz.func28,Tryz.ntmps28;go_wp2_with fail;refine HC.out.mono ?_;intro e u hr;cases R with
 | error z =>
  obtain ⟨rfl,hb⟩:=hr;exact ⟨rfl,rfl,hb⟩
 | ok v =>
  obtain ⟨l,j⟩:=v;obtain ⟨⟨v,rfl,hv⟩,h1,h2⟩:=hr;obtain ⟨oV,kV,rfl⟩:=Row.len hv;have HV:=aa (aI.keep (Nn) (qq w u hpw 5 (.slice oV l.length kV)) hv);have HR:=aa (h1.Nr (.slice oV l.length kV));have HB:=aa (h2.trans (But.set p 5 u (.slice oV l.length kV)));have c5:=h1.cell 5 _ rfl;have f5:=h1.ag 5;clear hv h1 h2 HC;generalize l.length=nl at *;go_wp2;go_end0;exact ⟨rfl,⟨_,HV.out,HR.out⟩,HB.out⟩
theorem NG:Calls Tryz.prog 28 #[.pointer (some ⟨p,0,none⟩),.int .i64 4] w (qm w0 p s c en k n 3 3 om w (aV (lX s en) s en i)):=by
 have HC:=aa (NH w0 p s c en k i n w h);have hpw:=h.lt;clear h;generalize aV (lX s en) s en i=R at HC ⊢;go_enter Tryz.func28,Tryz.ntmps28;go_wp2_with fail;refine HC.out.mono ?_;intro e u hr;cases R with
 | error z =>
  obtain ⟨rfl,hb⟩:=hr;exact ⟨rfl,rfl,hb⟩
 | ok v =>
  obtain ⟨l,j⟩:=v;obtain ⟨⟨v,rfl,hv⟩,h1,h2⟩:=hr;obtain ⟨oV,kV,rfl⟩:=Row.len hv;have HV:=aa (aI.keep (mY) (qq w u hpw 6 (.slice oV l.length kV)) hv);have HR:=aa (h1.Ns (.slice oV l.length kV));have HB:=aa (h2.trans (But.set p 6 u (.slice oV l.length kV)));have c6:=h1.cell 6 _ rfl;have f6:=h1.ag 6;clear hv h1 h2 HC;generalize l.length=nl at *;go_wp2;go_end0;exact ⟨rfl,⟨_,HV.out,HR.out⟩,HB.out⟩
theorem NI:Calls Tryz.prog 28 #[.pointer (some ⟨p,0,none⟩),.int .i64 5] w (qm w0 p s c en k n 4 3 om w (aV (iz s en) s en i)):=by
 have HC:=aa (NJ w0 p s c en k i n w h);have hpw:=h.lt;clear h;generalize aV (iz s en) s en i=R at HC ⊢;go_enter Tryz.func28,Tryz.ntmps28;go_wp2_with fail;refine HC.out.mono ?_;intro e u hr;cases R with
 | error z =>
  obtain ⟨rfl,hb⟩:=hr;exact ⟨rfl,rfl,hb⟩
 | ok v =>
  obtain ⟨l,j⟩:=v;obtain ⟨⟨v,rfl,hv⟩,h1,h2⟩:=hr;obtain ⟨oV,kV,rfl⟩:=Row.len hv;have HV:=aa (aI.keep (mY) (qq w u hpw 7 (.slice oV l.length kV)) hv);have HR:=aa (h1.Nt (.slice oV l.length kV));have HB:=aa (h2.trans (But.set p 7 u (.slice oV l.length kV)));have c7:=h1.cell 7 _ rfl;have f7:=h1.ag 7;clear hv h1 h2 HC;generalize l.length=nl at *;go_wp2;go_end0;exact ⟨rfl,⟨_,HV.out,HR.out⟩,HB.out⟩
theorem NK (d:Nat):Calls Tryz.prog 28 #[.pointer (some ⟨p,0,none⟩),.int .i64 6] w (qm w0 p s c en k n 5 9 (uW d) w (aV (jR d s en) s en i)):=by
 have HC:=aa (NL w0 p s c en k i n w h d);have hpw:=h.lt;clear h;generalize aV (jR d s en) s en i=R at HC ⊢;go_enter Tryz.func28,Tryz.ntmps28;go_wp2_with fail;refine HC.out.mono ?_;intro e u hr;cases R with
 | error z =>
  obtain ⟨rfl,hb⟩:=hr;exact ⟨rfl,rfl,hb⟩
 | ok v =>
  obtain ⟨l,j⟩:=v;obtain ⟨⟨v,rfl,hv⟩,h1,h2⟩:=hr;obtain ⟨oV,kV,rfl⟩:=Row.len hv;have HV:=aa (aI.keep (uV d) (qq w u hpw 8 (.slice oV l.length kV)) hv);have HR:=aa (h1.Nu (.slice oV l.length kV));have HB:=aa (h2.trans (But.set p 8 u (.slice oV l.length kV)));have c8:=h1.cell 8 _ rfl;have f8:=h1.ag 8;clear hv h1 h2 HC;generalize l.length=nl at *;go_wp2;go_end0;exact ⟨rfl,⟨_,HV.out,HR.out⟩,HB.out⟩
theorem NM (hU:∀u,Below w0.heap.size w0 u->iW u):Calls Tryz.prog 28 #[.pointer (some ⟨p,0,none⟩),.int .i64 7] w (qm w0 p s c en k n 6 3 uU w (aV (jw s en) s en i)):=by
 have HC:=aa (NN w0 p s c en k i n w h hU);have hpw:=h.lt;clear h hU;generalize aV (jw s en) s en i=R at HC ⊢;go_enter Tryz.func28,Tryz.ntmps28;go_wp2_with fail;refine HC.out.mono ?_;intro e u hr;cases R with
 | error z =>
  obtain ⟨rfl,hb⟩:=hr;exact ⟨rfl,rfl,hb⟩
 | ok v =>
  obtain ⟨l,j⟩:=v;obtain ⟨⟨v,rfl,hv⟩,h1,h2⟩:=hr;obtain ⟨oV,kV,rfl⟩:=Row.len hv;have HV:=aa (aI.keep (uT) (qq w u hpw 9 (.slice oV l.length kV)) hv);have HR:=aa (h1.Nv (.slice oV l.length kV));have HB:=aa (h2.trans (But.set p 9 u (.slice oV l.length kV)));have c9:=h1.cell 9 _ rfl;have f9:=h1.ag 9;clear hv h1 h2 HC;generalize l.length=nl at *;go_wp2;go_end0;exact ⟨rfl,⟨_,HV.out,HR.out⟩,HB.out⟩
theorem NP (d:Nat):Calls Tryz.prog 28 #[.pointer (some ⟨p,0,none⟩),.int .i64 9] w (qm w0 p s c en k n 8 8 (uY d) w (aV (lj d s en) s en i)):=by
 have HC:=aa (NQ w0 p s c en k i n w h d);have hpw:=h.lt;clear h;generalize aV (lj d s en) s en i=R at HC ⊢;go_enter Tryz.func28,Tryz.ntmps28;go_wp2_with fail;refine HC.out.mono ?_;intro e u hr;cases R with
 | error z =>
  obtain ⟨rfl,hb⟩:=hr;exact ⟨rfl,rfl,hb⟩
 | ok v =>
  obtain ⟨l,j⟩:=v;obtain ⟨⟨v,rfl,hv⟩,h1,h2⟩:=hr;obtain ⟨oV,kV,rfl⟩:=Row.len hv;have HV:=aa (aI.keep (uX d) (qq w u hpw 11 (.slice oV l.length kV)) hv);have HR:=aa (h1.Ny (.slice oV l.length kV));have HB:=aa (h2.trans (But.set p 11 u (.slice oV l.length kV)));have c11:=h1.cell 11 _ rfl;have f11:=h1.ag 11;clear hv h1 h2 HC;generalize l.length=nl at *;go_wp2;go_end0;exact ⟨rfl,⟨_,HV.out,HR.out⟩,HB.out⟩
theorem NR (d:Nat):Calls Tryz.prog 28 #[.pointer (some ⟨p,0,none⟩),.int .i64 11] w (qm w0 p s c en k n 9 8 (ve d) w (aV (lq d s en) s en i)):=by
 have HC:=aa (NS w0 p s c en k i n w h d);have hpw:=h.lt;clear h;generalize aV (lq d s en) s en i=R at HC ⊢;go_enter Tryz.func28,Tryz.ntmps28;go_wp2_with fail;refine HC.out.mono ?_;intro e u hr;cases R with
 | error z =>
  obtain ⟨rfl,hb⟩:=hr;exact ⟨rfl,rfl,hb⟩
 | ok v =>
  obtain ⟨l,j⟩:=v;obtain ⟨⟨v,rfl,hv⟩,h1,h2⟩:=hr;obtain ⟨oV,kV,rfl⟩:=Row.len hv;have HV:=aa (aI.keep (uZ d) (qq w u hpw 12 (.slice oV l.length kV)) hv);have HR:=aa (h1.Nz (.slice oV l.length kV));have HB:=aa (h2.trans (But.set p 12 u (.slice oV l.length kV)));have c12:=h1.cell 12 _ rfl;have f12:=h1.ag 12;clear hv h1 h2 HC;generalize l.length=nl at *;go_wp2;go_end0;exact ⟨rfl,⟨_,HV.out,HR.out⟩,HB.out⟩
end
namespace ai
def uL:EA Int:=fun w _ g o x=>w.cell? ⟨g,o,none⟩=some (.int .i64 x)
theorem tj:ql uL:=fun w w' S S' hk g o x hb h=>dE hk hb h
def qX (s:ByteArray) (en i:Nat):R (List Int):=bd (ru s en i) fun a j=>.ok ([a],j)
theorem s5 {w u:World} (hw:w.heap.size<=u.heap.size) (l:Int) (t:TypeId):aI 1 uL (u.alloc (.cells #[.int .i64 l] t)) (Since w.heap.size (u.alloc (.cells #[.int .i64 l] t)) none) (.slice (some ⟨u.heap.size,0,none⟩) 1 1) [l] :=
 ⟨by simp,.inr ⟨u.heap.size,0,1,rfl,fun i x hx=>by
  match i,hx with
  | 0,hx =>
   have:l=x:=by simpa using hx
   subst this;exact ⟨⟨hw,by simp,by simp⟩,by have:=qU u (.int .i64 l) t 0 _ rfl;rw [ry] at this;exact this⟩
  | i+1,hx=>simp at hx⟩⟩
end ai
section
variable (w0:World) (p:Nat) (s:ByteArray) (c:Nat->Value) (en k i n:Nat) (w:World) (h:RS w0 p s c en k i n w)
include h
theorem Jw (hU:∀u,Below w0.heap.size w0 u->iW u):Calls Tryz.prog 28 #[.pointer (some ⟨p,0,none⟩),.int .i64 0] w (bw w0 p s c en k n xu w (nu s en i)):=by
 have HC:=aa (Qf w0 p s c en k i n w h hU);clear h hU;generalize nu s en i=R at HC ⊢;go_enter Tryz.func28,Tryz.ntmps28;go_wp2_with fail;refine HC.out.mono ?_;intro e u hr;cases R with
 | error z =>
  obtain ⟨rfl,hb⟩:=hr;exact ⟨rfl,rfl,hb⟩
 | ok v =>
  obtain ⟨l,j⟩:=v;obtain ⟨⟨v,rfl,hv⟩,h1,h2⟩:=hr;have hv:v=.tuple #[]:=hv;subst hv;have HR:=aa (⟨h1,h2⟩:_/\_);clear h1 h2 HC;go_wp2;go_end0;exact ⟨⟨_,rfl,rfl⟩,HR.out.1,HR.out.2⟩
theorem SF:Calls Tryz.prog 28 #[.pointer (some ⟨p,0,none⟩),.int .i64 8] w (qm w0 p s c en k n 7 1 uL w (qX s en i)):=by
 have HC:=aa (gh w0 p s c en k i n w h);have hpw:=h.lt;clear h;unfold qX;generalize ru s en i=R at HC ⊢;go_enter Tryz.func28,Tryz.ntmps28;go_wp2_with fail;refine HC.out.mono ?_;intro e u hr;cases R with
 | error z =>
  obtain ⟨rfl,hb⟩:=hr;exact ⟨rfl,rfl,hb⟩
 | ok v =>
  obtain ⟨l,j⟩:=v;obtain ⟨⟨v,rfl,hv⟩,h1,h2⟩:=hr;have hv:v=.int .i64 l:=hv;subst hv;have h3:=h1.on (aD u (.cells #[.int .i64 l] 3));have HR:=aa (h3.Nw (.slice (some ⟨u.heap.size,0,none⟩) 1 1));have HB:=aa ((h2.trans (But.of p (aD u (.cells #[.int .i64 l] 3)))).trans (But.set p 10 _ (.slice (some ⟨u.heap.size,0,none⟩) 1 1)));have HV:=aa (aI.keep tj (qq w _ hpw 10 (.slice (some ⟨u.heap.size,0,none⟩) 1 1)) (s5 (w:=w) h2.size l 3));have c7:=h3.cell 10 _ rfl;have f7:=h3.ag 10;clear h1 h2 h3 HC;go_wp2;go_end0;rw [aM];exact ⟨rfl,⟨_,HV.out,HR.out⟩,HB.out⟩
end
namespace ai
theorem RS.end_ {w0 w:World} {p:Nat} {s:ByteArray} {c:Nat->Value} {en k i n:Nat} (h:RS w0 p s c en k i n w) {m:Nat} (h1:i<=m) (h2:m<=s.size):RS w0 p s c m k i n (w.setCell ⟨p,2,none⟩ (.int .i64 m)) :=
 ⟨h.below.setCell h.base _,h.base,heap_setCell_same w p 2 _ _ _ h.blk,h1,h2,h.big⟩
structure oQ (p:Nat) (w w':World):Prop where
 os:w'.os=w.os
 tape:w'.tape=w.tape
 output:w'.output=w.output
 size:w.heap.size<=w'.heap.size
 block:∀k,k<w.heap.size->k≠p->(∀cur z,w.heap[k]?≠some (.cells cur 68 z))->w'.heap[k]?=w.heap[k]?
theorem But.t {p:Nat} {w w':World} (h:But p w w'):oQ p w w':=⟨h.os,h.tape,h.output,h.size,fun k hk hp _=>h.block k hk (by simpa using hp)⟩
theorem oQ.trans {p:Nat} {w w' u:World} (h:oQ p w w') (h':oQ p w' u):oQ p w u :=
 ⟨h'.os.trans h.os,h'.tape.trans h.tape,h'.output.trans h.output,Nat.le_trans h.size h'.size,fun k hk hp hf=>(h'.block k (Nat.lt_of_lt_of_le hk h.size) hp (by rw [h.block k hk hp hf];exact hf)).trans (h.block k hk hp hf)⟩
def mV (σ:Type):=σ->Nat->Nat->R σ
def Ba {σ:Type} (p:Nat) (M:σ->(Nat->Value)->Nat->Nat->World->Prop):Prop:=∀st c k n w w',M st c k n w->But p w w'->M st c k n w'
def iO {σ:Type} (w0:World) (p:Nat) (s:ByteArray) (M:σ->(Nat->Value)->Nat->Nat->World->Prop) (en:Nat) (w:World) (x:R σ) (e:Ending) (w':World):Prop :=
 match x with
 | .ok (st,j)=>e=.returned (.tuple #[])/\(∃c k n,RS w0 p s c en k j n w'/\M st c k n w')/\oQ p w w'
 | .error z=>e=.panicked (gave z)/\Below w0.heap.size w0 w'
def kr {σ:Type} (w0:World) (p:Nat) (s:ByteArray) (M:σ->(Nat->Value)->Nat->Nat->World->Prop) (sec:mV σ) (id:Int):Prop :=
 ∀st c en k i n w,RS w0 p s c en k i n w->M st c k n w->Calls Tryz.prog 28 #[.pointer (some ⟨p,0,none⟩),.int .i64 id] w (iO w0 p s M en w (sec st en i))
def dZ {σ:Type} (sec:mV σ) (s:ByteArray) (st:σ) (en i:Nat):R σ :=
 bd (ru s en i) fun z j=>bd (sec st (min en (j+z.toNat)) j) fun st' m=>if m=j+z.toNat then .ok (st',m) else .error 50
theorem LQ {w0 w:World} {p o:Nat} {v:Value} (h:Below w0.heap.size w0 (w.setCell ⟨p,o,none⟩ v)) (hp:w0.heap.size<=p):Below w0.heap.size w0 w :=
 ⟨h.os,h.tape,h.output,by have:=h.size;simpa using this,fun k hk=>by rw [<- h.block k hk,Below.heap_setCell _ _ _ _ (by show k≠p;omega)]⟩
theorem Cx {p:Nat} {w w':World} (h:But p w w') {b o:Nat} {v:Value} (hb:b≠p) (hc:w.cell? ⟨b,o,none⟩=some v):w'.cell? ⟨b,o,none⟩=some v :=
 World.grownBy.cell h hc (by simp [hb])
end ai
theorem LR {σ:Type} {w0:World} {p:Nat} {s:ByteArray} {M:σ->(Nat->Value)->Nat->Nat->World->Prop} {sec:mV σ} {id:Int} (hS:kr w0 p s M sec id) (st:σ) (c:Nat->Value) (en k i n br bi:Nat) (w:World) (h:RS w0 p s c en k i n w) (hM:M st c k n w)
  (cr:w.cell? ⟨br,0,none⟩=some (.pointer (some ⟨p,0,none⟩))) (ci:w.cell? ⟨bi,0,none⟩=some (.int .i64 id)) :
  Calls Tryz.prog 27 #[.pointer (some ⟨br,0,none⟩),.pointer (some ⟨bi,0,none⟩)] w (iO w0 p s M en w (sec st en i)):=by
 have HC:=aa (hS st c en k i n w h hM);clear h hM hS;generalize sec st en i=X at HC ⊢;go_enter Tryz.func27,Tryz.ntmps27;go_wp2_with fail;refine HC.out.mono ?_;intro e u hr;cases X with
 | error z =>
  obtain ⟨rfl,hb⟩:=hr;exact ⟨rfl,rfl,hb⟩
 | ok v =>
  obtain ⟨l,j⟩:=v;obtain ⟨rfl,hr⟩:=hr;have HR:=aa hr;clear hr HC;go_wp2;go_end0;exact ⟨rfl,HR.out⟩
theorem FI {σ:Type} {w0:World} {p:Nat} {s:ByteArray} {M:σ->(Nat->Value)->Nat->Nat->World->Prop} (hK:Ba p M) {sec:mV σ} {id:Int} (hS:kr w0 p s M sec id) (st:σ) (c:Nat->Value) (en k i n br bi:Nat) (w:World) (h:RS w0 p s c en k i n w) (hM:M st c k n w)
  (cr:w.cell? ⟨br,0,none⟩=some (.pointer (some ⟨p,0,none⟩))) (ci:w.cell? ⟨bi,0,none⟩=some (.int .i64 id)) (hbr:br≠p) (xN:bi≠p) :
  Calls Tryz.prog 26 #[.pointer (some ⟨p,0,none⟩),.func (.func 27) #[] #[.pointer (some ⟨br,0,none⟩),.pointer (some ⟨bi,0,none⟩)]] w (iO w0 p s M en w (dZ sec s st en i)):=by
 have HC:=aa (gh w0 p s c en k i n w h);have H:=aa h;have HM:=aa hM;unfold dZ;cases hR:ru s en i with
 | error z =>
  rw [hR] at HC;clear h hM;go_enter Tryz.func26,Tryz.ntmps26;go_wp2_with fail;refine HC.out.mono ?_;rintro e u ⟨rfl,hb⟩;exact ⟨rfl,rfl,hb⟩
 | ok vv =>
  obtain ⟨zi,j⟩:=vv;obtain ⟨hij,LU,hz0,hz1⟩:=iP h.len hR;rw [hR] at HC;obtain ⟨z,rfl⟩:=Int.eq_ofNat_of_zero_le hz0;have hlen:=h.len;have hbig:=h.big;clear h hM hR;rw [aM,show Int.toNat (z:Int)=z from rfl]
  have HI:Hid (∀(u1:World) (E:Nat),RS w0 p s c en k j n u1->But p w u1->j<=E->E<=en->Calls Tryz.prog 27 #[.pointer (some ⟨br,0,none⟩),.pointer (some ⟨bi,0,none⟩)] (u1.setCell ⟨p,2,none⟩ (.int .i64 E)) (fun e w'=>iO w0 p s M E (u1.setCell ⟨p,2,none⟩ (.int .i64 E)) (sec st E j) e w')):=aa fun u1 E h1 hB Cy LV=>by
   have nZ:But p w (u1.setCell ⟨p,2,none⟩ (.int .i64 E)):=hB.trans (But.set p 2 u1 _);exact LR hS st c E k j n br bi _ (h1.end_ Cy (by omega)) (hK _ _ _ _ _ _ HM.out nZ) (Cx nZ hbr cr) (Cx nZ xN ci)
  have HJ:Hid (∀(u1:World) (E:Nat) (w3:World) (st':σ) (m:Nat),But p w u1->oQ p (u1.setCell ⟨p,2,none⟩ (.int .i64 E)) w3->(∃c k n,RS w0 p s c E k m n w3/\M st' c k n w3)->E<=en ->
    ((∃c k n,RS w0 p s c en k m n (w3.setCell ⟨p,2,none⟩ (.int .i64 en))/\M st' c k n (w3.setCell ⟨p,2,none⟩ (.int .i64 en)))/\oQ p w (w3.setCell ⟨p,2,none⟩ (.int .i64 en)))/\w3.cell? ⟨p,1,none⟩=some (.int .i64 m)/\w3.cell? ⟨p,2,none⟩=some (.int .i64 E)/\w3.frozen? ⟨p,2,none⟩=false):=aa fun u1 E w3 st' m hB hb3 ⟨c3,k3,n3,h3,LW⟩ hE=>by
   have hbs:=But.set p 2 w3 (.int .i64 (en:Int));exact ⟨⟨⟨c3,k3,n3,h3.end_ (Nat.le_trans h3.le hE) hlen,hK _ _ _ _ _ _ LW hbs⟩,((But.t (But.trans hB (But.set p 2 u1 _))).trans hb3).trans (But.t hbs)⟩,h3.cell 1 _ rfl,h3.cell 2 _ rfl,h3.ag 2⟩
  clear cr ci hS hK H HM;have HX:=aa (fun u1 h1 hB=>HI.out u1 (min en (j+z)) h1 hB (by omega) (by omega));have uN:=aa (fun u1 w3 st' m hB hb3 hx=>HJ.out u1 (min en (j+z)) w3 st' m hB hb3 hx (by omega));clear HI HJ;rw [show ((min en (j+z):Nat):Int)=min (en:Int) ((j:Int)+(z:Int)) by omega] at HX uN;generalize sec st (min en (j+z)) j=X at HX ⊢;have fin:Hid (∀e w',iO w0 p s M en w (bd X fun st' m=>if m=j+z then .ok (st',m) else .error 50) e w'->iO w0 p s M en w (bd X fun st' m=>if m=j+z then .ok (st',m) else .error 50) e w'):=aa fun _ _ h=>h;go_enter Tryz.func26,Tryz.ntmps26;go_wp2_with fail;refine HC.out.mono ?_;rintro e u ⟨⟨v,rfl,hv⟩,h1,h2⟩;have hv:v=.int .i64 z:=hv;subst hv;have d1:=h1.cell 1 _ rfl;have d2:=h1.cell 2 _ rfl;have H1:=aa h1;have H2:=aa h2;clear h1 h2 HC hv;go_wp2_with fail;go_quiet (fail);have h1':=H1.out.on (bN u nq);have xO:But p w (u.drewN nq):=H2.out.trans (But.of p (bN u nq));generalize u.drewN nq=u1 at *;clear d1 d2 H1 H2;have e1:=h1'.cell 1 _ rfl;have e2:=h1'.cell 2 _ rfl;have f2:=h1'.ag 2;have H1:=aa h1';have HB:=aa xO;clear h1' xO;go_wp2_with fail;refine (HX.out u1 H1.out HB.out).mono ?_;intro e w3 hr;cases X with
  | error zz =>
   obtain ⟨rfl,hb⟩:=hr;exact ⟨rfl,rfl,hb⟩
  | ok vv =>
   obtain ⟨st',m⟩:=vv;obtain ⟨rfl,hx,hb3⟩:=hr;obtain ⟨hr3,c1,c2,f3⟩:=uN.out u1 w3 st' m HB.out hb3 hx;have HR3:=aa hr3;clear hr3 hx hb3 HX uN H1 HB e1 e2 f2;by_cases hm:m=j+z
   ·have dm:((m:Int) == (j:Int)+(z:Int))=true:=by simp;omega
    go_wp2_with fail;refine (bH _ _).mono ?_;rintro e w' ⟨rfl,rfl⟩;go_wp2;go_end0;refine fin.out _ _ ?_;rw [aM,if_pos hm];exact ⟨rfl,HR3.out.1,HR3.out.2⟩
   ·have dm:((m:Int) == (j:Int)+(z:Int))=false:=by simp;omega
    have LX:=aa HR3.out.1;go_wp2_with fail;refine (eZ _ _).mono ?_;rintro e w' ⟨rfl,rfl⟩;obtain ⟨c',k',n',h',_⟩:=LX.out;refine ⟨rfl,fin.out _ _ ?_⟩;rw [aM,if_neg hm];exact ⟨rfl,LQ h'.below h'.base⟩
end Go.Proofs.YtegboefdolfdgaaGreatDoor
