/- Texts that the claim needs. -/
import Derived.Test.YtgbbmdknbflilaaDoorQDcu19
namespace Go.Proofs.YtgbbmdknbflilaaDoor
open Go.RowKit Rep Dec
set_option linter.unusedVariables false
namespace Dec
def aFT:EA FT:=fun w S g o x=>(∃v,w.cell? ⟨g,o,none⟩=some v/\IntsS w S v x.params)/\∃v,w.cell? ⟨g,o+1,none⟩=some v/\IntsS w S v x.results
def aImp:EA Imp:=fun w _ g o x=>ImpAt w g o x
def aFty:EA Int:=fun w _ g o x=>(∃cur,w.heap[g]?=some (.cells cur 67 (0,0)))/\w.cell? ⟨g,o,none⟩=some (.int .i64 x)/\w.cell? ⟨g,o+1,none⟩=some (.slice none 0 0)/\w.cell? ⟨g,o+2,none⟩=some (.slice none 0 0)
def aLim:EA Lim:=fun w _ g o x=>LimAt w g o x
def aExp:EA Exp:=fun w _ g o x=>ExpAt w g o x
def aGlo (d:Nat):EA (Glo d):=fun w S g o x=>w.cell? ⟨g,o,none⟩=some (.int .i64 x.type)/\w.cell? ⟨g,o+1,none⟩=some (.bool x.mtb)/\InsS w S (AtS w S d) g (o+2) x.init
def aElm (d:Nat):EA (Elm d):=fun w S g o x=>InsS w S (AtS w S d) g o x.offset/\∃v,w.cell? ⟨g,o+7,none⟩=some v/\IntsS w S v x.funcs
def aDat (d:Nat):EA (Dat d):=fun w S g o x=>InsS w S (AtS w S d) g o x.offset/\w.cell? ⟨g,o+7,none⟩=some (.string x.bytes)
theorem plain_keep {α:Type} (C:α->List Value):Keeps (kPlain C):=fun w w' S S' hk x vs h=>h
theorem kFT_keep:Keeps kFT:=fun w w' S S' hk x vs ⟨a,b,h,h1,h2⟩=>⟨a,b,h,h1.keep hk,h2.keep hk⟩
theorem lFT {e:TypeId}:Lies e kFT aFT:=fun w S g o x vs ⟨a,b,h,h1,h2⟩ hg hc=>by subst h;exact ⟨⟨_,hc 0 _ rfl,h1⟩,_,hc 1 _ rfl,h2⟩
theorem lImp {e:TypeId}:Lies e kImp aImp:=fun w S g o x vs h hg hc=>by
 have h:vs = [.string x.mod,.string x.name,.int .i64 x.type]:=h
 subst h;exact ⟨hc 0 _ rfl,hc 1 _ rfl,hc 2 _ rfl⟩
theorem lFty:Lies 67 kFty aFty:=fun w S g o x vs h hg hc=>by
 have h:vs = [.int .i64 x,.slice none 0 0,.slice none 0 0]:=h
 subst h;exact ⟨hg,hc 0 _ rfl,hc 1 _ rfl,hc 2 _ rfl⟩
theorem lLim {e:TypeId}:Lies e kLim aLim:=fun w S g o x vs h hg hc=>by
 have h:vs = [.int .i64 x.min,.int .i64 x.max,.bool x.has]:=h
 subst h;exact ⟨hc 0 _ rfl,hc 1 _ rfl,hc 2 _ rfl⟩
theorem lExp {e:TypeId}:Lies e kExp aExp:=fun w S g o x vs h hg hc=>by
 have h:vs = [.string x.name,.int .i64 x.kind,.int .i64 x.index]:=h
 subst h;exact ⟨hc 0 _ rfl,hc 1 _ rfl,hc 2 _ rfl⟩
theorem lIns (d:Nat) {w:World} {S:Nat->Prop} {g o:Nat} {x:Ins (IL d)} {vs:List Value} (h:kIns d w S x vs) (hc:∀k v,vs[k]?=some v->w.cell? ⟨g,o+k,none⟩=some v):InsS w S (AtS w S d) g o x:=by
 obtain ⟨a,b,c,h,h1,h2,h3⟩:=h
 subst h
 exact ⟨hc 0 _ rfl,hc 1 _ rfl,hc 2 _ rfl,hc 3 _ rfl,⟨_,hc 4 _ rfl,h1⟩,⟨_,hc 5 _ rfl,h2⟩,⟨_,hc 6 _ rfl,h3⟩⟩
theorem kIns_len {d:Nat} {w:World} {S:Nat->Prop} {x:Ins (IL d)} {vs:List Value} (h:kIns d w S x vs):vs.length=7:=by
 obtain ⟨a,b,c,h,_⟩:=h
 subst h;rfl
theorem lGlo {e:TypeId} (d:Nat):Lies e (kGlo d) (aGlo d):=fun w S g o x vs ⟨v7,h,h1⟩ hg hc=>by
 subst h
 exact ⟨hc 0 _ rfl,hc 1 _ rfl,lIns d h1 fun k v hv=>by
  have:=hc (k+2) v (by simpa using hv)
  rw [Nat.add_assoc,Nat.add_comm 2 k];exact this⟩
theorem lElm {e:TypeId} (d:Nat):Lies e (kElm d) (aElm d):=fun w S g o x vs ⟨v7,l,h,h1,h2⟩ hg hc=>by
 have h7:=kIns_len h1
 subst h
 refine ⟨lIns d h1 fun k v hv=>hc k v ?_,l,hc 7 l ?_,h2⟩
 ·rw [List.getElem?_append_left (List.getElem?_eq_some_iff.1 hv).1];exact hv
 ·rw [List.getElem?_append_right (by omega),h7];rfl
theorem lDat {e:TypeId} (d:Nat):Lies e (kDat d) (aDat d):=fun w S g o x vs ⟨v7,h,h1⟩ hg hc=>by
 have h7:=kIns_len h1
 subst h
 refine ⟨lIns d h1 fun k v hv=>hc k v ?_,hc 7 _ ?_⟩
 ·rw [List.getElem?_append_left (List.getElem?_eq_some_iff.1 hv).1];exact hv
 ·rw [List.getElem?_append_right (by omega),h7];rfl
end Dec
section
variable (w0:World) (p:Nat) (s:ByteArray) (c:Nat->Value) (en k i n:Nat) (w:World) (h:RS w0 p s c en k i n w)
include h
theorem sTypes:Calls Tryd.prog 22 #[.pointer (some ⟨p,0,none⟩),.func (.func 23) #[.pointer (some ⟨p,0,none⟩)] #[]] w (Rds w0 p s c en k n (fun l v u=>RowS 2 aFT u (Since w.heap.size u none) v l) w (rents (rft s en) s en i)) :=
 dFTs (rft s en) kFT aFT kFT_keep lFT w0 p s c en k i n w h fun j u hu=>dFT w0 p s c en k j n u hu
theorem sFuncs:Calls Tryd.prog 26 #[.pointer (some ⟨p,0,none⟩),.func (.func 27) #[.pointer (some ⟨p,0,none⟩)] #[]] w (Rds w0 p s c en k n (fun l v u=>RowS 3 aFty u (Since w.heap.size u none) v l) w (rents (rfty s en) s en i)) :=
 dFtys (rfty s en) kFty aFty (plain_keep _) lFty w0 p s c en k i n w h fun j u hu=>dFty w0 p s c en k j n u hu
theorem sTables:Calls Tryd.prog 28 #[.pointer (some ⟨p,0,none⟩),.func (.func 29) #[.pointer (some ⟨p,0,none⟩)] #[]] w (Rds w0 p s c en k n (fun l v u=>RowS 3 aLim u (Since w.heap.size u none) v l) w (rents (rtab s en) s en i)) :=
 dTabs (rtab s en) kLim aLim (plain_keep _) lLim w0 p s c en k i n w h fun j u hu=>dTab w0 p s c en k j n u hu
theorem sMems:Calls Tryd.prog 28 #[.pointer (some ⟨p,0,none⟩),.func (.func 30) #[.pointer (some ⟨p,0,none⟩)] #[]] w (Rds w0 p s c en k n (fun l v u=>RowS 3 aLim u (Since w.heap.size u none) v l) w (rents (rlim s en) s en i)) :=
 dLims (rlim s en) kLim aLim (plain_keep _) lLim w0 p s c en k i n w h fun j u hu=>dLim w0 p s c en k j n u hu
theorem sGlobals (d:Nat):Calls Tryd.prog 31 #[.pointer (some ⟨p,0,none⟩),.func (.func 32) #[.pointer (some ⟨p,0,none⟩)] #[]] w (Rds w0 p s c en k n (fun l v u=>RowS 9 (aGlo d) u (Since w.heap.size u none) v l) w (rents (rglo d s en) s en i)) :=
 dGlos (rglo d s en) (kGlo d) (aGlo d) (kGlo_keep d) (lGlo d) w0 p s c en k i n w h fun j u hu=>dGlo w0 p s c en k j n u hu d
theorem sElems (d:Nat):Calls Tryd.prog 35 #[.pointer (some ⟨p,0,none⟩),.func (.func 36) #[.pointer (some ⟨p,0,none⟩)] #[]] w (Rds w0 p s c en k n (fun l v u=>RowS 8 (aElm d) u (Since w.heap.size u none) v l) w (rents (relm d s en) s en i)) :=
 dElms (relm d s en) (kElm d) (aElm d) (kElm_keep d) (lElm d) w0 p s c en k i n w h fun j u hu=>dElm w0 p s c en k j n u hu d
theorem sDatas (d:Nat):Calls Tryd.prog 38 #[.pointer (some ⟨p,0,none⟩),.func (.func 39) #[.pointer (some ⟨p,0,none⟩)] #[]] w (Rds w0 p s c en k n (fun l v u=>RowS 8 (aDat d) u (Since w.heap.size u none) v l) w (rents (rdat d s en) s en i)) :=
 dDats (rdat d s en) (kDat d) (aDat d) (kDat_keep d) (lDat d) w0 p s c en k i n w h fun j u hu=>dDat w0 p s c en k j n u hu d
variable (hU:∀u,Below w0.heap.size w0 u->UtfI u)
include hU
theorem sImports:Calls Tryd.prog 24 #[.pointer (some ⟨p,0,none⟩),.func (.func 25) #[.pointer (some ⟨p,0,none⟩)] #[]] w (Rds w0 p s c en k n (fun l v u=>RowS 3 aImp u (Since w.heap.size u none) v l) w (rents (rimp s en) s en i)) :=
 dImps (rimp s en) kImp aImp (plain_keep _) lImp w0 p s c en k i n w h fun j u hu=>dImp w0 p s c en k j n u hu hU
theorem sExports:Calls Tryd.prog 33 #[.pointer (some ⟨p,0,none⟩),.func (.func 34) #[.pointer (some ⟨p,0,none⟩)] #[]] w (Rds w0 p s c en k n (fun l v u=>RowS 3 aExp u (Since w.heap.size u none) v l) w (rents (rexp s en) s en i)) :=
 dExps (rexp s en) kExp aExp (plain_keep _) lExp w0 p s c en k i n w h fun j u hu=>dExp w0 p s c en k j n u hu hU
end
end Go.Proofs.YtgbbmdknbflilaaDoor

namespace Go.Proofs.YtgbbmdknbflilaaDoor
open Go.RowKit Rep Dec
set_option linter.unusedVariables false
namespace Dec
def KeepF {α:Type} (F:EA α):Prop:=∀(w w':World) (S S':Nat->Prop),(∀k,S k->S' k/\w'.heap[k]?=w.heap[k]?)->∀g o x,S g->F w S g o x->F w' S' g o x
theorem RowS.keep {α:Type} {F:EA α} (hF:KeepF F) {n:Nat} {w w':World} {S S':Nat->Prop} (hk:∀k,S k->S' k/\w'.heap[k]?=w.heap[k]?) {v:Value} {l:List α} (h:RowS n F w S v l):RowS n F w' S' v l :=
 Row.imp h fun b _ _ _ h=>⟨(hk b h.1).1,hF _ _ _ _ hk _ _ _ h.1 h.2⟩
theorem ins_keep {d:Nat} {w w':World} {S S':Nat->Prop} (hk:∀k,S k->S' k/\w'.heap[k]?=w.heap[k]?) {g o:Nat} {x:Ins (IL d)} (hb:S g) (h:InsS w S (AtS w S d) g o x):InsS w' S' (AtS w' S' d) g o x :=
 ⟨cell_keep hk hb h.op,cell_keep hk hb h.a,cell_keep hk hb h.b,cell_keep hk hb h.n,let ⟨v,a,c⟩:=h.labels;⟨v,cell_keep hk hb a,c.keep hk⟩,let ⟨v,a,c⟩:=h.body;⟨v,cell_keep hk hb a,AtS.keep hk _ _ _ c⟩,let ⟨v,a,c⟩:=h.els;⟨v,cell_keep hk hb a,AtS.keep hk _ _ _ c⟩⟩
theorem aFT_keep:KeepF aFT:=fun w w' S S' hk g o x hb ⟨⟨v,a,b⟩,u,c,d⟩=>⟨⟨v,cell_keep hk hb a,b.keep hk⟩,u,cell_keep hk hb c,d.keep hk⟩
theorem aImp_keep:KeepF aImp:=fun w w' S S' hk g o x hb h=>⟨cell_keep hk hb h.mod,cell_keep hk hb h.name,cell_keep hk hb h.type⟩
theorem aFty_keep:KeepF aFty:=fun w w' S S' hk g o x hb h=>⟨by obtain ⟨cur,hc⟩:=h.1;exact ⟨cur,by rw [(hk g hb).2];exact hc⟩,cell_keep hk hb h.2.1,cell_keep hk hb h.2.2.1,cell_keep hk hb h.2.2.2⟩
theorem aLim_keep:KeepF aLim:=fun w w' S S' hk g o x hb h=>⟨cell_keep hk hb h.min,cell_keep hk hb h.max,cell_keep hk hb h.has⟩
theorem aExp_keep:KeepF aExp:=fun w w' S S' hk g o x hb h=>⟨cell_keep hk hb h.name,cell_keep hk hb h.kind,cell_keep hk hb h.index⟩
theorem aGlo_keep (d:Nat):KeepF (aGlo d):=fun w w' S S' hk g o x hb h=>⟨cell_keep hk hb h.1,cell_keep hk hb h.2.1,ins_keep hk hb h.2.2⟩
theorem aElm_keep (d:Nat):KeepF (aElm d):=fun w w' S S' hk g o x hb ⟨h,v,a,b⟩=>⟨ins_keep hk hb h,v,cell_keep hk hb a,b.keep hk⟩
theorem aDat_keep (d:Nat):KeepF (aDat d):=fun w w' S S' hk g o x hb h=>⟨ins_keep hk hb h.1,cell_keep hk hb h.2⟩
def upd (c:Nat->Value) (f:Nat) (v:Value):Nat->Value:=fun q=>if q=f then v else c q
def SRds {α:Type} (w0:World) (p:Nat) (s:ByteArray) (c:Nat->Value) (en k n f width:Nat) (F:EA α) (w:World) (x:R (List α)) (e:Ending) (w':World):Prop :=
 match x with
 | .ok (l,j)=>e=.returned (.tuple #[])/\(∃v,RowS width F w' (Since w.heap.size w' none) v l/\RS w0 p s (upd c f v) en k j n w')/\But p w w'
 | .error z=>e=.panicked (gave z)/\Below w0.heap.size w0 w'
theorem keep_p (w u:World) {p:Nat} (hp:p<w.heap.size) (j:Nat) (v:Value):∀k,Since w.heap.size u none k->Since w.heap.size (u.setCell ⟨p,j,none⟩ v) none k/\(u.setCell ⟨p,j,none⟩ v).heap[k]?=u.heap[k]?:=fun k hk =>
 ⟨⟨hk.1,by simpa using hk.2.1,by simp⟩,Below.heap_setCell _ _ _ _ (by have:=hk.1;show k≠p;omega)⟩
theorem RS.mod0 {w0 w:World} {p:Nat} {s:ByteArray} {c:Nat->Value} {en k i n:Nat} (h:RS w0 p s c en k i n w) (v:Value):RS w0 p s (upd c 0 v) en k i n (w.setCell ⟨p,3,none⟩ v) :=
 ⟨h.below.setCell h.base _,h.base,heap_setCell_same w p 3 _ _ _ h.blk,h.le,h.len,h.big⟩
theorem RS.mod1 {w0 w:World} {p:Nat} {s:ByteArray} {c:Nat->Value} {en k i n:Nat} (h:RS w0 p s c en k i n w) (v:Value):RS w0 p s (upd c 1 v) en k i n (w.setCell ⟨p,4,none⟩ v) :=
 ⟨h.below.setCell h.base _,h.base,heap_setCell_same w p 4 _ _ _ h.blk,h.le,h.len,h.big⟩
theorem RS.mod2 {w0 w:World} {p:Nat} {s:ByteArray} {c:Nat->Value} {en k i n:Nat} (h:RS w0 p s c en k i n w) (v:Value):RS w0 p s (upd c 2 v) en k i n (w.setCell ⟨p,5,none⟩ v) :=
 ⟨h.below.setCell h.base _,h.base,heap_setCell_same w p 5 _ _ _ h.blk,h.le,h.len,h.big⟩
theorem RS.mod3 {w0 w:World} {p:Nat} {s:ByteArray} {c:Nat->Value} {en k i n:Nat} (h:RS w0 p s c en k i n w) (v:Value):RS w0 p s (upd c 3 v) en k i n (w.setCell ⟨p,6,none⟩ v) :=
 ⟨h.below.setCell h.base _,h.base,heap_setCell_same w p 6 _ _ _ h.blk,h.le,h.len,h.big⟩
theorem RS.mod4 {w0 w:World} {p:Nat} {s:ByteArray} {c:Nat->Value} {en k i n:Nat} (h:RS w0 p s c en k i n w) (v:Value):RS w0 p s (upd c 4 v) en k i n (w.setCell ⟨p,7,none⟩ v) :=
 ⟨h.below.setCell h.base _,h.base,heap_setCell_same w p 7 _ _ _ h.blk,h.le,h.len,h.big⟩
theorem RS.mod5 {w0 w:World} {p:Nat} {s:ByteArray} {c:Nat->Value} {en k i n:Nat} (h:RS w0 p s c en k i n w) (v:Value):RS w0 p s (upd c 5 v) en k i n (w.setCell ⟨p,8,none⟩ v) :=
 ⟨h.below.setCell h.base _,h.base,heap_setCell_same w p 8 _ _ _ h.blk,h.le,h.len,h.big⟩
theorem RS.mod6 {w0 w:World} {p:Nat} {s:ByteArray} {c:Nat->Value} {en k i n:Nat} (h:RS w0 p s c en k i n w) (v:Value):RS w0 p s (upd c 6 v) en k i n (w.setCell ⟨p,9,none⟩ v) :=
 ⟨h.below.setCell h.base _,h.base,heap_setCell_same w p 9 _ _ _ h.blk,h.le,h.len,h.big⟩
theorem RS.mod7 {w0 w:World} {p:Nat} {s:ByteArray} {c:Nat->Value} {en k i n:Nat} (h:RS w0 p s c en k i n w) (v:Value):RS w0 p s (upd c 7 v) en k i n (w.setCell ⟨p,10,none⟩ v) :=
 ⟨h.below.setCell h.base _,h.base,heap_setCell_same w p 10 _ _ _ h.blk,h.le,h.len,h.big⟩
theorem RS.mod8 {w0 w:World} {p:Nat} {s:ByteArray} {c:Nat->Value} {en k i n:Nat} (h:RS w0 p s c en k i n w) (v:Value):RS w0 p s (upd c 8 v) en k i n (w.setCell ⟨p,11,none⟩ v) :=
 ⟨h.below.setCell h.base _,h.base,heap_setCell_same w p 11 _ _ _ h.blk,h.le,h.len,h.big⟩
theorem RS.mod9 {w0 w:World} {p:Nat} {s:ByteArray} {c:Nat->Value} {en k i n:Nat} (h:RS w0 p s c en k i n w) (v:Value):RS w0 p s (upd c 9 v) en k i n (w.setCell ⟨p,12,none⟩ v) :=
 ⟨h.below.setCell h.base _,h.base,heap_setCell_same w p 12 _ _ _ h.blk,h.le,h.len,h.big⟩
end Dec
section
variable (w0:World) (p:Nat) (s:ByteArray) (c:Nat->Value) (en k i n:Nat) (w:World) (h:RS w0 p s c en k i n w)
include h
set_option maxRecDepth 100000 in
set_option maxHeartbeats 4000000 in
theorem sec1:Calls Tryd.prog 17 #[.pointer (some ⟨p,0,none⟩),.int .i64 1] w (SRds w0 p s c en k n 0 2 aFT w (rents (rft s en) s en i)):=by
 have HC:=hideR (sTypes w0 p s c en k i n w h)
 have hpw:=h.lt
 clear h
 generalize rents (rft s en) s en i=R at HC ⊢
 go_enter Tryd.func17,Tryd.ntmps17
 go_wp2_with fail
 refine HC.out.mono ?_
 intro e u hr
 cases R with
 | error z =>
  obtain ⟨rfl,hb⟩:=hr
  exact ⟨rfl,rfl,hb⟩
 | ok v =>
  obtain ⟨l,j⟩:=v
  obtain ⟨⟨v,rfl,hv⟩,h1,h2⟩:=hr
  obtain ⟨oV,kV,rfl⟩:=Row.len hv
  have HV:=hideR (RowS.keep (aFT_keep) (keep_p w u hpw 3 (.slice oV l.length kV)) hv)
  have HR:=hideR (h1.mod0 (.slice oV l.length kV))
  have HB:=hideR (h2.trans (But.set p 3 u (.slice oV l.length kV)))
  have c3:=h1.cell 3 _ rfl
  have f3:=h1.frz 3
  clear hv h1 h2 HC
  generalize l.length=nl at *
  go_wp2
  go_end0
  exact ⟨rfl,⟨_,HV.out,HR.out⟩,HB.out⟩
set_option maxRecDepth 100000 in
set_option maxHeartbeats 4000000 in
theorem sec2 (hU:∀u,Below w0.heap.size w0 u->UtfI u):Calls Tryd.prog 17 #[.pointer (some ⟨p,0,none⟩),.int .i64 2] w (SRds w0 p s c en k n 1 3 aImp w (rents (rimp s en) s en i)):=by
 have HC:=hideR (sImports w0 p s c en k i n w h hU)
 have hpw:=h.lt
 clear h hU
 generalize rents (rimp s en) s en i=R at HC ⊢
 go_enter Tryd.func17,Tryd.ntmps17
 go_wp2_with fail
 refine HC.out.mono ?_
 intro e u hr
 cases R with
 | error z =>
  obtain ⟨rfl,hb⟩:=hr
  exact ⟨rfl,rfl,hb⟩
 | ok v =>
  obtain ⟨l,j⟩:=v
  obtain ⟨⟨v,rfl,hv⟩,h1,h2⟩:=hr
  obtain ⟨oV,kV,rfl⟩:=Row.len hv
  have HV:=hideR (RowS.keep (aImp_keep) (keep_p w u hpw 4 (.slice oV l.length kV)) hv)
  have HR:=hideR (h1.mod1 (.slice oV l.length kV))
  have HB:=hideR (h2.trans (But.set p 4 u (.slice oV l.length kV)))
  have c4:=h1.cell 4 _ rfl
  have f4:=h1.frz 4
  clear hv h1 h2 HC
  generalize l.length=nl at *
  go_wp2
  go_end0
  exact ⟨rfl,⟨_,HV.out,HR.out⟩,HB.out⟩
set_option maxRecDepth 100000 in
set_option maxHeartbeats 4000000 in
theorem sec3:Calls Tryd.prog 17 #[.pointer (some ⟨p,0,none⟩),.int .i64 3] w (SRds w0 p s c en k n 2 3 aFty w (rents (rfty s en) s en i)):=by
 have HC:=hideR (sFuncs w0 p s c en k i n w h)
 have hpw:=h.lt
 clear h
 generalize rents (rfty s en) s en i=R at HC ⊢
 go_enter Tryd.func17,Tryd.ntmps17
 go_wp2_with fail
 refine HC.out.mono ?_
 intro e u hr
 cases R with
 | error z =>
  obtain ⟨rfl,hb⟩:=hr
  exact ⟨rfl,rfl,hb⟩
 | ok v =>
  obtain ⟨l,j⟩:=v
  obtain ⟨⟨v,rfl,hv⟩,h1,h2⟩:=hr
  obtain ⟨oV,kV,rfl⟩:=Row.len hv
  have HV:=hideR (RowS.keep (aFty_keep) (keep_p w u hpw 5 (.slice oV l.length kV)) hv)
  have HR:=hideR (h1.mod2 (.slice oV l.length kV))
  have HB:=hideR (h2.trans (But.set p 5 u (.slice oV l.length kV)))
  have c5:=h1.cell 5 _ rfl
  have f5:=h1.frz 5
  clear hv h1 h2 HC
  generalize l.length=nl at *
  go_wp2
  go_end0
  exact ⟨rfl,⟨_,HV.out,HR.out⟩,HB.out⟩
set_option maxRecDepth 100000 in
set_option maxHeartbeats 4000000 in
theorem sec4:Calls Tryd.prog 17 #[.pointer (some ⟨p,0,none⟩),.int .i64 4] w (SRds w0 p s c en k n 3 3 aLim w (rents (rtab s en) s en i)):=by
 have HC:=hideR (sTables w0 p s c en k i n w h)
 have hpw:=h.lt
 clear h
 generalize rents (rtab s en) s en i=R at HC ⊢
 go_enter Tryd.func17,Tryd.ntmps17
 go_wp2_with fail
 refine HC.out.mono ?_
 intro e u hr
 cases R with
 | error z =>
  obtain ⟨rfl,hb⟩:=hr
  exact ⟨rfl,rfl,hb⟩
 | ok v =>
  obtain ⟨l,j⟩:=v
  obtain ⟨⟨v,rfl,hv⟩,h1,h2⟩:=hr
  obtain ⟨oV,kV,rfl⟩:=Row.len hv
  have HV:=hideR (RowS.keep (aLim_keep) (keep_p w u hpw 6 (.slice oV l.length kV)) hv)
  have HR:=hideR (h1.mod3 (.slice oV l.length kV))
  have HB:=hideR (h2.trans (But.set p 6 u (.slice oV l.length kV)))
  have c6:=h1.cell 6 _ rfl
  have f6:=h1.frz 6
  clear hv h1 h2 HC
  generalize l.length=nl at *
  go_wp2
  go_end0
  exact ⟨rfl,⟨_,HV.out,HR.out⟩,HB.out⟩
set_option maxRecDepth 100000 in
set_option maxHeartbeats 4000000 in
theorem sec5:Calls Tryd.prog 17 #[.pointer (some ⟨p,0,none⟩),.int .i64 5] w (SRds w0 p s c en k n 4 3 aLim w (rents (rlim s en) s en i)):=by
 have HC:=hideR (sMems w0 p s c en k i n w h)
 have hpw:=h.lt
 clear h
 generalize rents (rlim s en) s en i=R at HC ⊢
 go_enter Tryd.func17,Tryd.ntmps17
 go_wp2_with fail
 refine HC.out.mono ?_
 intro e u hr
 cases R with
 | error z =>
  obtain ⟨rfl,hb⟩:=hr
  exact ⟨rfl,rfl,hb⟩
 | ok v =>
  obtain ⟨l,j⟩:=v
  obtain ⟨⟨v,rfl,hv⟩,h1,h2⟩:=hr
  obtain ⟨oV,kV,rfl⟩:=Row.len hv
  have HV:=hideR (RowS.keep (aLim_keep) (keep_p w u hpw 7 (.slice oV l.length kV)) hv)
  have HR:=hideR (h1.mod4 (.slice oV l.length kV))
  have HB:=hideR (h2.trans (But.set p 7 u (.slice oV l.length kV)))
  have c7:=h1.cell 7 _ rfl
  have f7:=h1.frz 7
  clear hv h1 h2 HC
  generalize l.length=nl at *
  go_wp2
  go_end0
  exact ⟨rfl,⟨_,HV.out,HR.out⟩,HB.out⟩
set_option maxRecDepth 100000 in
set_option maxHeartbeats 4000000 in
theorem sec6 (d:Nat):Calls Tryd.prog 17 #[.pointer (some ⟨p,0,none⟩),.int .i64 6] w (SRds w0 p s c en k n 5 9 (aGlo d) w (rents (rglo d s en) s en i)):=by
 have HC:=hideR (sGlobals w0 p s c en k i n w h d)
 have hpw:=h.lt
 clear h
 generalize rents (rglo d s en) s en i=R at HC ⊢
 go_enter Tryd.func17,Tryd.ntmps17
 go_wp2_with fail
 refine HC.out.mono ?_
 intro e u hr
 cases R with
 | error z =>
  obtain ⟨rfl,hb⟩:=hr
  exact ⟨rfl,rfl,hb⟩
 | ok v =>
  obtain ⟨l,j⟩:=v
  obtain ⟨⟨v,rfl,hv⟩,h1,h2⟩:=hr
  obtain ⟨oV,kV,rfl⟩:=Row.len hv
  have HV:=hideR (RowS.keep (aGlo_keep d) (keep_p w u hpw 8 (.slice oV l.length kV)) hv)
  have HR:=hideR (h1.mod5 (.slice oV l.length kV))
  have HB:=hideR (h2.trans (But.set p 8 u (.slice oV l.length kV)))
  have c8:=h1.cell 8 _ rfl
  have f8:=h1.frz 8
  clear hv h1 h2 HC
  generalize l.length=nl at *
  go_wp2
  go_end0
  exact ⟨rfl,⟨_,HV.out,HR.out⟩,HB.out⟩
set_option maxRecDepth 100000 in
set_option maxHeartbeats 4000000 in
theorem sec7 (hU:∀u,Below w0.heap.size w0 u->UtfI u):Calls Tryd.prog 17 #[.pointer (some ⟨p,0,none⟩),.int .i64 7] w (SRds w0 p s c en k n 6 3 aExp w (rents (rexp s en) s en i)):=by
 have HC:=hideR (sExports w0 p s c en k i n w h hU)
 have hpw:=h.lt
 clear h hU
 generalize rents (rexp s en) s en i=R at HC ⊢
 go_enter Tryd.func17,Tryd.ntmps17
 go_wp2_with fail
 refine HC.out.mono ?_
 intro e u hr
 cases R with
 | error z =>
  obtain ⟨rfl,hb⟩:=hr
  exact ⟨rfl,rfl,hb⟩
 | ok v =>
  obtain ⟨l,j⟩:=v
  obtain ⟨⟨v,rfl,hv⟩,h1,h2⟩:=hr
  obtain ⟨oV,kV,rfl⟩:=Row.len hv
  have HV:=hideR (RowS.keep (aExp_keep) (keep_p w u hpw 9 (.slice oV l.length kV)) hv)
  have HR:=hideR (h1.mod6 (.slice oV l.length kV))
  have HB:=hideR (h2.trans (But.set p 9 u (.slice oV l.length kV)))
  have c9:=h1.cell 9 _ rfl
  have f9:=h1.frz 9
  clear hv h1 h2 HC
  generalize l.length=nl at *
  go_wp2
  go_end0
  exact ⟨rfl,⟨_,HV.out,HR.out⟩,HB.out⟩
set_option maxRecDepth 100000 in
set_option maxHeartbeats 4000000 in
theorem sec9 (d:Nat):Calls Tryd.prog 17 #[.pointer (some ⟨p,0,none⟩),.int .i64 9] w (SRds w0 p s c en k n 8 8 (aElm d) w (rents (relm d s en) s en i)):=by
 have HC:=hideR (sElems w0 p s c en k i n w h d)
 have hpw:=h.lt
 clear h
 generalize rents (relm d s en) s en i=R at HC ⊢
 go_enter Tryd.func17,Tryd.ntmps17
 go_wp2_with fail
 refine HC.out.mono ?_
 intro e u hr
 cases R with
 | error z =>
  obtain ⟨rfl,hb⟩:=hr
  exact ⟨rfl,rfl,hb⟩
 | ok v =>
  obtain ⟨l,j⟩:=v
  obtain ⟨⟨v,rfl,hv⟩,h1,h2⟩:=hr
  obtain ⟨oV,kV,rfl⟩:=Row.len hv
  have HV:=hideR (RowS.keep (aElm_keep d) (keep_p w u hpw 11 (.slice oV l.length kV)) hv)
  have HR:=hideR (h1.mod8 (.slice oV l.length kV))
  have HB:=hideR (h2.trans (But.set p 11 u (.slice oV l.length kV)))
  have c11:=h1.cell 11 _ rfl
  have f11:=h1.frz 11
  clear hv h1 h2 HC
  generalize l.length=nl at *
  go_wp2
  go_end0
  exact ⟨rfl,⟨_,HV.out,HR.out⟩,HB.out⟩
set_option maxRecDepth 100000 in
set_option maxHeartbeats 4000000 in
theorem sec11 (d:Nat):Calls Tryd.prog 17 #[.pointer (some ⟨p,0,none⟩),.int .i64 11] w (SRds w0 p s c en k n 9 8 (aDat d) w (rents (rdat d s en) s en i)):=by
 have HC:=hideR (sDatas w0 p s c en k i n w h d)
 have hpw:=h.lt
 clear h
 generalize rents (rdat d s en) s en i=R at HC ⊢
 go_enter Tryd.func17,Tryd.ntmps17
 go_wp2_with fail
 refine HC.out.mono ?_
 intro e u hr
 cases R with
 | error z =>
  obtain ⟨rfl,hb⟩:=hr
  exact ⟨rfl,rfl,hb⟩
 | ok v =>
  obtain ⟨l,j⟩:=v
  obtain ⟨⟨v,rfl,hv⟩,h1,h2⟩:=hr
  obtain ⟨oV,kV,rfl⟩:=Row.len hv
  have HV:=hideR (RowS.keep (aDat_keep d) (keep_p w u hpw 12 (.slice oV l.length kV)) hv)
  have HR:=hideR (h1.mod9 (.slice oV l.length kV))
  have HB:=hideR (h2.trans (But.set p 12 u (.slice oV l.length kV)))
  have c12:=h1.cell 12 _ rfl
  have f12:=h1.frz 12
  clear hv h1 h2 HC
  generalize l.length=nl at *
  go_wp2
  go_end0
  exact ⟨rfl,⟨_,HV.out,HR.out⟩,HB.out⟩
end
end Go.Proofs.YtgbbmdknbflilaaDoor

namespace Go.Proofs.YtgbbmdknbflilaaDoor
open Go.RowKit Rep Dec
set_option linter.unusedVariables false
namespace Dec
def aInt:EA Int:=fun w _ g o x=>w.cell? ⟨g,o,none⟩=some (.int .i64 x)
theorem aInt_keep:KeepF aInt:=fun w w' S S' hk g o x hb h=>cell_keep hk hb h
def rstart (s:ByteArray) (en i:Nat):R (List Int):=bd (ru s en i) fun a j=>.ok ([a],j)
theorem one_new {w u:World} (hw:w.heap.size<=u.heap.size) (l:Int) (t:TypeId):RowS 1 aInt (u.alloc (.cells #[.int .i64 l] t)) (Since w.heap.size (u.alloc (.cells #[.int .i64 l] t)) none) (.slice (some ⟨u.heap.size,0,none⟩) 1 1) [l] :=
 ⟨by simp,.inr ⟨u.heap.size,0,1,rfl,fun i x hx=>by
  match i,hx with
  | 0,hx =>
   have:l=x:=by simpa using hx
   subst this
   exact ⟨⟨hw,by simp,by simp⟩,by have:=new_at u (.int .i64 l) t 0 _ rfl;rw [add_addr] at this;exact this⟩
  | i+1,hx=>simp at hx⟩⟩
end Dec
section
variable (w0:World) (p:Nat) (s:ByteArray) (c:Nat->Value) (en k i n:Nat) (w:World) (h:RS w0 p s c en k i n w)
include h
set_option maxRecDepth 100000 in
set_option maxHeartbeats 4000000 in
theorem sec0 (hU:∀u,Below w0.heap.size w0 u->UtfI u):Calls Tryd.prog 17 #[.pointer (some ⟨p,0,none⟩),.int .i64 0] w (Rds w0 p s c en k n vUnit w (rcustom s en i)):=by
 have HC:=hideR (dCustom w0 p s c en k i n w h hU)
 clear h hU
 generalize rcustom s en i=R at HC ⊢
 go_enter Tryd.func17,Tryd.ntmps17
 go_wp2_with fail
 refine HC.out.mono ?_
 intro e u hr
 cases R with
 | error z =>
  obtain ⟨rfl,hb⟩:=hr
  exact ⟨rfl,rfl,hb⟩
 | ok v =>
  obtain ⟨l,j⟩:=v
  obtain ⟨⟨v,rfl,hv⟩,h1,h2⟩:=hr
  have hv:v=.tuple #[]:=hv
  subst hv
  have HR:=hideR (⟨h1,h2⟩:_/\_)
  clear h1 h2 HC
  go_wp2
  go_end0
  exact ⟨⟨_,rfl,rfl⟩,HR.out.1,HR.out.2⟩
set_option maxRecDepth 100000 in
set_option maxHeartbeats 4000000 in
theorem sec8:Calls Tryd.prog 17 #[.pointer (some ⟨p,0,none⟩),.int .i64 8] w (SRds w0 p s c en k n 7 1 aInt w (rstart s en i)):=by
 have HC:=hideR (dUns w0 p s c en k i n w h)
 have hpw:=h.lt
 clear h
 unfold rstart
 generalize ru s en i=R at HC ⊢
 go_enter Tryd.func17,Tryd.ntmps17
 go_wp2_with fail
 refine HC.out.mono ?_
 intro e u hr
 cases R with
 | error z =>
  obtain ⟨rfl,hb⟩:=hr
  exact ⟨rfl,rfl,hb⟩
 | ok v =>
  obtain ⟨l,j⟩:=v
  obtain ⟨⟨v,rfl,hv⟩,h1,h2⟩:=hr
  have hv:v=.int .i64 l:=hv
  subst hv
  have h3:=h1.on (new_on' u (.cells #[.int .i64 l] 3))
  have HR:=hideR (h3.mod7 (.slice (some ⟨u.heap.size,0,none⟩) 1 1))
  have HB:=hideR ((h2.trans (But.of p (new_on' u (.cells #[.int .i64 l] 3)))).trans (But.set p 10 _ (.slice (some ⟨u.heap.size,0,none⟩) 1 1)))
  have HV:=hideR (RowS.keep aInt_keep (keep_p w _ hpw 10 (.slice (some ⟨u.heap.size,0,none⟩) 1 1)) (one_new (w:=w) h2.size l 3))
  have c7:=h3.cell 10 _ rfl
  have f7:=h3.frz 10
  clear h1 h2 h3 HC
  go_wp2
  go_end0
  rw [bd_ok]
  exact ⟨rfl,⟨_,HV.out,HR.out⟩,HB.out⟩
end
end Go.Proofs.YtgbbmdknbflilaaDoor

