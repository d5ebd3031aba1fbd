/- Texts that the claim needs. -/
import Derived.Test.YtcfifbgemfladaaGreatDoorQDPa19
namespace Go.Proofs.YtcfifbgemfladaaGreatDoor
open Go.RowKit au aI Go.Proofs.Tryz
set_option linter.unusedVariables false
set_option maxRecDepth 100000
set_option maxHeartbeats 4000000
namespace aI
def Al:EA FT:=λw S g o x=>(∃v,w.cell? ⟨g,o,none⟩=some v/\aU w S v x.params)/\∃v,w.cell? ⟨g,o+1,none⟩=some v/\aU w S v x.results
def Ao:EA oG:=λw _ g o x=>uu w g o x
def Ap:EA Int:=λw _ g o x=>(∃cur,w.heap[g]?=some (.cells cur 55 (0,0)))/\w.cell? ⟨g,o,none⟩=some (.int .i64 x)/\w.cell? ⟨g,o+1,none⟩=some (.slice none 0 0)/\w.cell? ⟨g,o+2,none⟩=some (.slice none 0 0)
def uF:EA gu:=λw _ g o x=>mG w g o x
def Ar:EA oH:=λw _ g o x=>uA w g o x
def Av (d:Nat):EA (mZ d):=λw S g o x=>w.cell? ⟨g,o,none⟩=some (.int .i64 x.type)/\w.cell? ⟨g,o+1,none⟩=some (.bool x.je)/\zg w S (az w S d) g (o+2) x.init
def Ay (d:Nat):EA (lX d):=λw S g o x=>zg w S (az w S d) g o x.offset/\∃v,w.cell? ⟨g,o+7,none⟩=some v/\aU w S v x.funcs
def AA (d:Nat):EA (Dat d):=λw S g o x=>zg w S (az w S d) g o x.offset/\w.cell? ⟨g,o+7,none⟩=some (.string x.bytes)
theorem Dq {α:Type} (C:α->List Value):qA (Dr C):=λw w' S S' hk x vs h=>h
theorem WI:qA Gb:=λw w' S S' hk x vs ⟨a,b,h,h1,h2⟩=>⟨a,b,h,h1.keep hk,h2.keep hk⟩
theorem WJ {e:TypeId}:iE e Gb Al:=λw S g o x vs ⟨a,b,h,h1,h2⟩ hg hc=>by subst h;exact ⟨⟨_,hc 0 _ rfl,h1⟩,_,hc 1 _ rfl,h2⟩
theorem WK {e:TypeId}:iE e Jb Ao:=λw S g o x vs h hg hc=>by
 have h:vs = [.string x.mod,.string x.name,.int .i64 x.type]:=h;subst h;exact ⟨hc 0 _ rfl,hc 1 _ rfl,hc 2 _ rfl⟩
theorem WL:iE 55 Jc Ap:=λw S g o x vs h hg hc=>by
 have h:vs = [.int .i64 x,.slice none 0 0,.slice none 0 0]:=h;subst h;exact ⟨hg,hc 0 _ rfl,hc 1 _ rfl,hc 2 _ rfl⟩
theorem Nt {e:TypeId}:iE e Dt uF:=λw S g o x vs h hg hc=>by
 have h:vs = [.int .i64 x.min,.int .i64 x.max,.bool x.has]:=h;subst h;exact ⟨hc 0 _ rfl,hc 1 _ rfl,hc 2 _ rfl⟩
theorem WN {e:TypeId}:iE e Jd Ar:=λw S g o x vs h hg hc=>by
 have h:vs = [.string x.name,.int .i64 x.kind,.int .i64 x.index]:=h;subst h;exact ⟨hc 0 _ rfl,hc 1 _ rfl,hc 2 _ rfl⟩
theorem Je (d:Nat) {w:AG} {S:Nat->Prop} {g o:Nat} {x:Ins (IL d)} {vs:List Value} (h:BP d w S x vs) (hc:∀k v,vs[k]?=some v->w.cell? ⟨g,o+k,none⟩=some v):zg w S (az w S d) g o x:=by
 obtain ⟨a,b,c,h,h1,h2,h3⟩:=h;subst h;exact ⟨hc 0 _ rfl,hc 1 _ rfl,hc 2 _ rfl,hc 3 _ rfl,⟨_,hc 4 _ rfl,h1⟩,⟨_,hc 5 _ rfl,h2⟩,⟨_,hc 6 _ rfl,h3⟩⟩
theorem Nu {d:Nat} {w:AG} {S:Nat->Prop} {x:Ins (IL d)} {vs:List Value} (h:BP d w S x vs):vs.length=7:=by
 obtain ⟨a,b,c,h,_⟩:=h;subst h;rfl
theorem WO {e:TypeId} (d:Nat):iE e (Gc d) (Av d):=λw S g o x vs ⟨v7,h,h1⟩ hg hc=>by
 subst h
 exact ⟨hc 0 _ rfl,hc 1 _ rfl,Je d h1 λk v hv=>by
  have:=hc (k+2) v (by simpa using hv)
  rw [Nat.add_assoc,Nat.add_comm 2 k];exact this⟩
theorem WQ {e:TypeId} (d:Nat):iE e (Gd d) (Ay d):=λw S g o x vs ⟨v7,l,h,h1,h2⟩ hg hc=>by
 have h7:=Nu h1;subst h;refine ⟨Je d h1 λk v hv=>hc k v ?_,l,hc 7 l ?_,h2⟩
 ·rw [vB (gq.1 hv).1];exact hv
 rw [uV (by omega),h7];rfl
theorem WR {e:TypeId} (d:Nat):iE e (Gf d) (AA d):=λw S g o x vs ⟨v7,h,h1⟩ hg hc=>by
 have h7:=Nu h1;subst h;refine ⟨Je d h1 λk v hv=>hc k v ?_,hc 7 _ ?_⟩
 ·rw [vB (gq.1 hv).1];exact hv
 rw [uV (by omega),h7];rfl
end aI
section
variable (w0:AG) (p:Nat) (s:AH) (c:Nat->Value) (en k i n:Nat) (w:AG) (h:RS w0 p s c en k i n w)
include h
theorem V3:Calls prog 71 #[.pointer (some ⟨p,0,none⟩),.func (.func 72) #[.pointer (some ⟨p,0,none⟩)] #[]] w (cz w0 p s c en k n (λl v u=>aR 2 Al u (Since w.heap.size u none) v l) w (bB (ni s en) s en i)) :=
 WS (ni s en) Gb Al WI WJ w0 p s c en k i n w h λj u hu=>WT w0 p s c en k j n u hu
theorem V7:Calls prog 75 #[.pointer (some ⟨p,0,none⟩),.func (.func 76) #[.pointer (some ⟨p,0,none⟩)] #[]] w (cz w0 p s c en k n (λl v u=>aR 3 Ap u (Since w.heap.size u none) v l) w (bB (qO s en) s en i)) :=
 WU (qO s en) Jc Ap (Dq _) WL w0 p s c en k i n w h λj u hu=>WV w0 p s c en k j n u hu
theorem V9:Calls prog 77 #[.pointer (some ⟨p,0,none⟩),.func (.func 78) #[.pointer (some ⟨p,0,none⟩)] #[]] w (cz w0 p s c en k n (λl v u=>aR 3 uF u (Since w.heap.size u none) v l) w (bB (qy s en) s en i)) :=
 WW (qy s en) Dt uF (Dq _) Nt w0 p s c en k i n w h λj u hu=>WX w0 p s c en k j n u hu
theorem We:Calls prog 77 #[.pointer (some ⟨p,0,none⟩),.func (.func 79) #[.pointer (some ⟨p,0,none⟩)] #[]] w (cz w0 p s c en k n (λl v u=>aR 3 uF u (Since w.heap.size u none) v l) w (bB (kK s en) s en i)) :=
 WY (kK s en) Dt uF (Dq _) Nt w0 p s c en k i n w h λj u hu=>Nv w0 p s c en k j n u hu
theorem Wi (d:Nat):Calls prog 80 #[.pointer (some ⟨p,0,none⟩),.func (.func 81) #[.pointer (some ⟨p,0,none⟩)] #[]] w (cz w0 p s c en k n (λl v u=>aR 9 (Av d) u (Since w.heap.size u none) v l) w (bB (oK d s en) s en i)) :=
 WZ (oK d s en) (Gc d) (Av d) (W5 d) (WO d) w0 p s c en k i n w h λj u hu=>W6 w0 p s c en k j n u hu d
theorem Wn (d:Nat):Calls prog 84 #[.pointer (some ⟨p,0,none⟩),.func (.func 85) #[.pointer (some ⟨p,0,none⟩)] #[]] w (cz w0 p s c en k n (λl v u=>aR 8 (Ay d) u (Since w.heap.size u none) v l) w (bB (oM d s en) s en i)) :=
 W7 (oM d s en) (Gd d) (Ay d) (W8 d) (WQ d) w0 p s c en k i n w h λj u hu=>W9 w0 p s c en k j n u hu d
theorem Wp (d:Nat):Calls prog 87 #[.pointer (some ⟨p,0,none⟩),.func (.func 88) #[.pointer (some ⟨p,0,none⟩)] #[]] w (cz w0 p s c en k n (λl v u=>aR 8 (AA d) u (Since w.heap.size u none) v l) w (bB (oO d s en) s en i)) :=
 Xa (oO d s en) (Gf d) (AA d) (Xb d) (WR d) w0 p s c en k i n w h λj u hu=>Xc w0 p s c en k j n u hu d
variable (hU:∀u,AS w0 u->mI u)
include hU
theorem V5:Calls prog 73 #[.pointer (some ⟨p,0,none⟩),.func (.func 74) #[.pointer (some ⟨p,0,none⟩)] #[]] w (cz w0 p s c en k n (λl v u=>aR 3 Ao u (Since w.heap.size u none) v l) w (bB (nR s en) s en i)) :=
 Xd (nR s en) Jb Ao (Dq _) WK w0 p s c en k i n w h λj u hu=>Xe w0 p s c en k j n u hu hU
theorem Wl:Calls prog 82 #[.pointer (some ⟨p,0,none⟩),.func (.func 83) #[.pointer (some ⟨p,0,none⟩)] #[]] w (cz w0 p s c en k n (λl v u=>aR 3 Ar u (Since w.heap.size u none) v l) w (bB (nS s en) s en i)) :=
 Xf (nS s en) Jd Ar (Dq _) WN w0 p s c en k i n w h λj u hu=>Xg w0 p s c en k j n u hu hU
end
namespace aI
def wO {α:Type} (F:EA α):Prop:=∀(w w':AG) (S S':Nat->Prop),(∀k,S k->S' k/\w'.heap[k]?=w.heap[k]?)->∀g o x,S g->F w S g o x->F w' S' g o x
theorem aR.keep {α:Type} {F:EA α} (hF:wO F) {n:Nat} {w w':AG} {S S':Nat->Prop} (hk:∀k,S k->S' k/\w'.heap[k]?=w.heap[k]?) {v:Value} {l:List α} (h:aR n F w S v l):aR n F w' S' v l :=
 Row.imp h λb _ _ _ h=>⟨(hk b h.1).1,hF _ _ _ _ hk _ _ _ h.1 h.2⟩
theorem I5 {d:Nat} {w w':AG} {S S':Nat->Prop} (hk:∀k,S k->S' k/\w'.heap[k]?=w.heap[k]?) {g o:Nat} {x:Ins (IL d)} (hb:S g) (h:zg w S (az w S d) g o x):zg w' S' (az w' S' d) g o x :=
 ⟨gZ hk hb h.op,gZ hk hb h.a,gZ hk hb h.b,gZ hk hb h.n,let ⟨v,a,c⟩:=h.labels;⟨v,gZ hk hb a,c.keep hk⟩,let ⟨v,a,c⟩:=h.body;⟨v,gZ hk hb a,az.keep hk _ _ _ c⟩,let ⟨v,a,c⟩:=h.els;⟨v,gZ hk hb a,az.keep hk _ _ _ c⟩⟩
theorem Ak:wO Al:=λw w' S S' hk g o x hb ⟨⟨v,a,b⟩,u,c,d⟩=>⟨⟨v,gZ hk hb a,b.keep hk⟩,u,gZ hk hb c,d.keep hk⟩
theorem Am:wO Ao:=λw w' S S' hk g o x hb h=>⟨gZ hk hb h.mod,gZ hk hb h.name,gZ hk hb h.type⟩
theorem VP:wO Ap:=λw w' S S' hk g o x hb h=>⟨by obtain ⟨cur,hc⟩:=h.1;exact ⟨cur,by rw [(hk g hb).2];exact hc⟩,gZ hk hb h.2.1,gZ hk hb h.2.2.1,gZ hk hb h.2.2.2⟩
theorem rP:wO uF:=λw w' S S' hk g o x hb h=>⟨gZ hk hb h.min,gZ hk hb h.max,gZ hk hb h.has⟩
theorem Aq:wO Ar:=λw w' S S' hk g o x hb h=>⟨gZ hk hb h.name,gZ hk hb h.kind,gZ hk hb h.index⟩
theorem Au (d:Nat):wO (Av d):=λw w' S S' hk g o x hb h=>⟨gZ hk hb h.1,gZ hk hb h.2.1,I5 hk hb h.2.2⟩
theorem Aw (d:Nat):wO (Ay d):=λw w' S S' hk g o x hb ⟨h,v,a,b⟩=>⟨I5 hk hb h,v,gZ hk hb a,b.keep hk⟩
theorem Az (d:Nat):wO (AA d):=λw w' S S' hk g o x hb h=>⟨I5 hk hb h.1,gZ hk hb h.2⟩
def upd (c:Nat->Value) (f:Nat) (v:Value):Nat->Value:=λq=>if q=f then v else c q
def wP {α:Type} (w0:AG) (p:Nat) (s:AH) (c:Nat->Value) (en k n f width:Nat) (F:EA α) (w:AG) (x:R (List α)) (e:Ending) (w':AG):Prop :=
 match x with
 | .ok (l,j)=>e=.returned (.tuple #[])/\(∃v,aR width F w' (Since w.heap.size w' none) v l/\RS w0 p s (upd c f v) en k j n w')/\But p w w'
 | .error z=>e=.panicked (gave z)/\AS w0 w'
theorem wQ (w u:AG) {p:Nat} (hp:p<w.heap.size) (j:Nat) (v:Value):∀k,Since w.heap.size u none k->Since w.heap.size (u.setCell ⟨p,j,none⟩ v) none k/\(u.setCell ⟨p,j,none⟩ v).heap[k]?=u.heap[k]?:=λk hk =>
 ⟨⟨hk.1,by simpa using hk.2.1,by simp⟩,Below.heap_setCell _ _ _ _ (by have:=hk.1;show k≠p;omega)⟩
theorem RS.VQ {w0 w:AG} {p:Nat} {s:AH} {c:Nat->Value} {en k i n:Nat} (h:RS w0 p s c en k i n w) (v:Value):RS w0 p s (upd c 0 v) en k i n (w.setCell ⟨p,3,none⟩ v) :=
 ⟨h.below.setCell h.base _,h.base,heap_setCell_same w p 3 _ _ _ h.blk,h.le,h.len,h.big⟩
theorem RS.VS {w0 w:AG} {p:Nat} {s:AH} {c:Nat->Value} {en k i n:Nat} (h:RS w0 p s c en k i n w) (v:Value):RS w0 p s (upd c 1 v) en k i n (w.setCell ⟨p,4,none⟩ v) :=
 ⟨h.below.setCell h.base _,h.base,heap_setCell_same w p 4 _ _ _ h.blk,h.le,h.len,h.big⟩
theorem RS.VT {w0 w:AG} {p:Nat} {s:AH} {c:Nat->Value} {en k i n:Nat} (h:RS w0 p s c en k i n w) (v:Value):RS w0 p s (upd c 2 v) en k i n (w.setCell ⟨p,5,none⟩ v) :=
 ⟨h.below.setCell h.base _,h.base,heap_setCell_same w p 5 _ _ _ h.blk,h.le,h.len,h.big⟩
theorem RS.VU {w0 w:AG} {p:Nat} {s:AH} {c:Nat->Value} {en k i n:Nat} (h:RS w0 p s c en k i n w) (v:Value):RS w0 p s (upd c 3 v) en k i n (w.setCell ⟨p,6,none⟩ v) :=
 ⟨h.below.setCell h.base _,h.base,heap_setCell_same w p 6 _ _ _ h.blk,h.le,h.len,h.big⟩
theorem RS.VV {w0 w:AG} {p:Nat} {s:AH} {c:Nat->Value} {en k i n:Nat} (h:RS w0 p s c en k i n w) (v:Value):RS w0 p s (upd c 4 v) en k i n (w.setCell ⟨p,7,none⟩ v) :=
 ⟨h.below.setCell h.base _,h.base,heap_setCell_same w p 7 _ _ _ h.blk,h.le,h.len,h.big⟩
theorem RS.VW {w0 w:AG} {p:Nat} {s:AH} {c:Nat->Value} {en k i n:Nat} (h:RS w0 p s c en k i n w) (v:Value):RS w0 p s (upd c 5 v) en k i n (w.setCell ⟨p,8,none⟩ v) :=
 ⟨h.below.setCell h.base _,h.base,heap_setCell_same w p 8 _ _ _ h.blk,h.le,h.len,h.big⟩
theorem RS.VX {w0 w:AG} {p:Nat} {s:AH} {c:Nat->Value} {en k i n:Nat} (h:RS w0 p s c en k i n w) (v:Value):RS w0 p s (upd c 6 v) en k i n (w.setCell ⟨p,9,none⟩ v) :=
 ⟨h.below.setCell h.base _,h.base,heap_setCell_same w p 9 _ _ _ h.blk,h.le,h.len,h.big⟩
theorem RS.VY {w0 w:AG} {p:Nat} {s:AH} {c:Nat->Value} {en k i n:Nat} (h:RS w0 p s c en k i n w) (v:Value):RS w0 p s (upd c 7 v) en k i n (w.setCell ⟨p,10,none⟩ v) :=
 ⟨h.below.setCell h.base _,h.base,heap_setCell_same w p 10 _ _ _ h.blk,h.le,h.len,h.big⟩
theorem RS.VZ {w0 w:AG} {p:Nat} {s:AH} {c:Nat->Value} {en k i n:Nat} (h:RS w0 p s c en k i n w) (v:Value):RS w0 p s (upd c 8 v) en k i n (w.setCell ⟨p,11,none⟩ v) :=
 ⟨h.below.setCell h.base _,h.base,heap_setCell_same w p 11 _ _ _ h.blk,h.le,h.len,h.big⟩
theorem RS.V2 {w0 w:AG} {p:Nat} {s:AH} {c:Nat->Value} {en k i n:Nat} (h:RS w0 p s c en k i n w) (v:Value):RS w0 p s (upd c 9 v) en k i n (w.setCell ⟨p,12,none⟩ v) :=
 ⟨h.below.setCell h.base _,h.base,heap_setCell_same w p 12 _ _ _ h.blk,h.le,h.len,h.big⟩
end aI
section
variable (w0:AG) (p:Nat) (s:AH) (c:Nat->Value) (en k i n:Nat) (w:AG) (h:RS w0 p s c en k i n w)
include h
theorem Na:Calls prog 51 #[.pointer (some ⟨p,0,none⟩),.int .i64 1] w (wP w0 p s c en k n 0 2 Al w (bB (ni s en) s en i)):=by
 have HC:=aa (V3 w0 p s c en k i n w h);have hpw:=h.lt;clear h;generalize bB (ni s en) s en i=R at HC ⊢;go_enter func51,ntmps51;go_wp2_with fail;refine HC.out.mono ?_;intro e u hr;cases R with
 | error z =>
  obtain ⟨rfl,hb⟩:=hr;exact ⟨rfl,rfl,hb⟩
 | ok v =>
  obtain ⟨l,j⟩:=v;obtain ⟨⟨v,rfl,hv⟩,h1,h2⟩:=hr;obtain ⟨oV,kV,rfl⟩:=Row.len hv;have HV:=aa (aR.keep (Ak) (wQ w u hpw 3 (.slice oV l.length kV)) hv);have HR:=aa (h1.VQ (.slice oV l.length kV));have HB:=aa (h2.trans (But.set p 3 u (.slice oV l.length kV)));have c3:=h1.cell 3 _ rfl;have f3:=h1.ax 3;clear hv h1 h2 HC;generalize l.length=nl at *;go_wp2;go_end0;exact ⟨rfl,⟨_,HV.out,HR.out⟩,HB.out⟩
theorem V4 (hU:∀u,AS w0 u->mI u):Calls prog 51 #[.pointer (some ⟨p,0,none⟩),.int .i64 2] w (wP w0 p s c en k n 1 3 Ao w (bB (nR s en) s en i)):=by
 have HC:=aa (V5 w0 p s c en k i n w h hU);have hpw:=h.lt;clear h hU;generalize bB (nR s en) s en i=R at HC ⊢;go_enter func51,ntmps51;go_wp2_with fail;refine HC.out.mono ?_;intro e u hr;cases R with
 | error z =>
  obtain ⟨rfl,hb⟩:=hr;exact ⟨rfl,rfl,hb⟩
 | ok v =>
  obtain ⟨l,j⟩:=v;obtain ⟨⟨v,rfl,hv⟩,h1,h2⟩:=hr;obtain ⟨oV,kV,rfl⟩:=Row.len hv;have HV:=aa (aR.keep (Am) (wQ w u hpw 4 (.slice oV l.length kV)) hv);have HR:=aa (h1.VS (.slice oV l.length kV));have HB:=aa (h2.trans (But.set p 4 u (.slice oV l.length kV)));have c4:=h1.cell 4 _ rfl;have f4:=h1.ax 4;clear hv h1 h2 HC;generalize l.length=nl at *;go_wp2;go_end0;exact ⟨rfl,⟨_,HV.out,HR.out⟩,HB.out⟩
theorem V6:Calls prog 51 #[.pointer (some ⟨p,0,none⟩),.int .i64 3] w (wP w0 p s c en k n 2 3 Ap w (bB (qO s en) s en i)):=by
 have HC:=aa (V7 w0 p s c en k i n w h);have hpw:=h.lt;clear h;generalize bB (qO s en) s en i=R at HC ⊢;go_enter func51,ntmps51;go_wp2_with fail;refine HC.out.mono ?_;intro e u hr;cases R with
 | error z =>
  obtain ⟨rfl,hb⟩:=hr;exact ⟨rfl,rfl,hb⟩
 | ok v =>
  obtain ⟨l,j⟩:=v;obtain ⟨⟨v,rfl,hv⟩,h1,h2⟩:=hr;obtain ⟨oV,kV,rfl⟩:=Row.len hv;have HV:=aa (aR.keep (VP) (wQ w u hpw 5 (.slice oV l.length kV)) hv);have HR:=aa (h1.VT (.slice oV l.length kV));have HB:=aa (h2.trans (But.set p 5 u (.slice oV l.length kV)));have c5:=h1.cell 5 _ rfl;have f5:=h1.ax 5;clear hv h1 h2 HC;generalize l.length=nl at *;go_wp2;go_end0;exact ⟨rfl,⟨_,HV.out,HR.out⟩,HB.out⟩
theorem V8:Calls prog 51 #[.pointer (some ⟨p,0,none⟩),.int .i64 4] w (wP w0 p s c en k n 3 3 uF w (bB (qy s en) s en i)):=by
 have HC:=aa (V9 w0 p s c en k i n w h);have hpw:=h.lt;clear h;generalize bB (qy s en) s en i=R at HC ⊢;go_enter func51,ntmps51;go_wp2_with fail;refine HC.out.mono ?_;intro e u hr;cases R with
 | error z =>
  obtain ⟨rfl,hb⟩:=hr;exact ⟨rfl,rfl,hb⟩
 | ok v =>
  obtain ⟨l,j⟩:=v;obtain ⟨⟨v,rfl,hv⟩,h1,h2⟩:=hr;obtain ⟨oV,kV,rfl⟩:=Row.len hv;have HV:=aa (aR.keep (rP) (wQ w u hpw 6 (.slice oV l.length kV)) hv);have HR:=aa (h1.VU (.slice oV l.length kV));have HB:=aa (h2.trans (But.set p 6 u (.slice oV l.length kV)));have c6:=h1.cell 6 _ rfl;have f6:=h1.ax 6;clear hv h1 h2 HC;generalize l.length=nl at *;go_wp2;go_end0;exact ⟨rfl,⟨_,HV.out,HR.out⟩,HB.out⟩
theorem Wd:Calls prog 51 #[.pointer (some ⟨p,0,none⟩),.int .i64 5] w (wP w0 p s c en k n 4 3 uF w (bB (kK s en) s en i)):=by
 have HC:=aa (We w0 p s c en k i n w h);have hpw:=h.lt;clear h;generalize bB (kK s en) s en i=R at HC ⊢;go_enter func51,ntmps51;go_wp2_with fail;refine HC.out.mono ?_;intro e u hr;cases R with
 | error z =>
  obtain ⟨rfl,hb⟩:=hr;exact ⟨rfl,rfl,hb⟩
 | ok v =>
  obtain ⟨l,j⟩:=v;obtain ⟨⟨v,rfl,hv⟩,h1,h2⟩:=hr;obtain ⟨oV,kV,rfl⟩:=Row.len hv;have HV:=aa (aR.keep (rP) (wQ w u hpw 7 (.slice oV l.length kV)) hv);have HR:=aa (h1.VV (.slice oV l.length kV));have HB:=aa (h2.trans (But.set p 7 u (.slice oV l.length kV)));have c7:=h1.cell 7 _ rfl;have f7:=h1.ax 7;clear hv h1 h2 HC;generalize l.length=nl at *;go_wp2;go_end0;exact ⟨rfl,⟨_,HV.out,HR.out⟩,HB.out⟩
theorem Wh (d:Nat):Calls prog 51 #[.pointer (some ⟨p,0,none⟩),.int .i64 6] w (wP w0 p s c en k n 5 9 (Av d) w (bB (oK d s en) s en i)):=by
 have HC:=aa (Wi w0 p s c en k i n w h d);have hpw:=h.lt;clear h;generalize bB (oK d s en) s en i=R at HC ⊢;go_enter func51,ntmps51;go_wp2_with fail;refine HC.out.mono ?_;intro e u hr;cases R with
 | error z =>
  obtain ⟨rfl,hb⟩:=hr;exact ⟨rfl,rfl,hb⟩
 | ok v =>
  obtain ⟨l,j⟩:=v;obtain ⟨⟨v,rfl,hv⟩,h1,h2⟩:=hr;obtain ⟨oV,kV,rfl⟩:=Row.len hv;have HV:=aa (aR.keep (Au d) (wQ w u hpw 8 (.slice oV l.length kV)) hv);have HR:=aa (h1.VW (.slice oV l.length kV));have HB:=aa (h2.trans (But.set p 8 u (.slice oV l.length kV)));have c8:=h1.cell 8 _ rfl;have f8:=h1.ax 8;clear hv h1 h2 HC;generalize l.length=nl at *;go_wp2;go_end0;exact ⟨rfl,⟨_,HV.out,HR.out⟩,HB.out⟩
theorem Wj (hU:∀u,AS w0 u->mI u):Calls prog 51 #[.pointer (some ⟨p,0,none⟩),.int .i64 7] w (wP w0 p s c en k n 6 3 Ar w (bB (nS s en) s en i)):=by
 have HC:=aa (Wl w0 p s c en k i n w h hU);have hpw:=h.lt;clear h hU;generalize bB (nS s en) s en i=R at HC ⊢;go_enter func51,ntmps51;go_wp2_with fail;refine HC.out.mono ?_;intro e u hr;cases R with
 | error z =>
  obtain ⟨rfl,hb⟩:=hr;exact ⟨rfl,rfl,hb⟩
 | ok v =>
  obtain ⟨l,j⟩:=v;obtain ⟨⟨v,rfl,hv⟩,h1,h2⟩:=hr;obtain ⟨oV,kV,rfl⟩:=Row.len hv;have HV:=aa (aR.keep (Aq) (wQ w u hpw 9 (.slice oV l.length kV)) hv);have HR:=aa (h1.VX (.slice oV l.length kV));have HB:=aa (h2.trans (But.set p 9 u (.slice oV l.length kV)));have c9:=h1.cell 9 _ rfl;have f9:=h1.ax 9;clear hv h1 h2 HC;generalize l.length=nl at *;go_wp2;go_end0;exact ⟨rfl,⟨_,HV.out,HR.out⟩,HB.out⟩
theorem Wm (d:Nat):Calls prog 51 #[.pointer (some ⟨p,0,none⟩),.int .i64 9] w (wP w0 p s c en k n 8 8 (Ay d) w (bB (oM d s en) s en i)):=by
 have HC:=aa (Wn w0 p s c en k i n w h d);have hpw:=h.lt;clear h;generalize bB (oM d s en) s en i=R at HC ⊢;go_enter func51,ntmps51;go_wp2_with fail;refine HC.out.mono ?_;intro e u hr;cases R with
 | error z =>
  obtain ⟨rfl,hb⟩:=hr;exact ⟨rfl,rfl,hb⟩
 | ok v =>
  obtain ⟨l,j⟩:=v;obtain ⟨⟨v,rfl,hv⟩,h1,h2⟩:=hr;obtain ⟨oV,kV,rfl⟩:=Row.len hv;have HV:=aa (aR.keep (Aw d) (wQ w u hpw 11 (.slice oV l.length kV)) hv);have HR:=aa (h1.VZ (.slice oV l.length kV));have HB:=aa (h2.trans (But.set p 11 u (.slice oV l.length kV)));have c11:=h1.cell 11 _ rfl;have f11:=h1.ax 11;clear hv h1 h2 HC;generalize l.length=nl at *;go_wp2;go_end0;exact ⟨rfl,⟨_,HV.out,HR.out⟩,HB.out⟩
theorem Wo (d:Nat):Calls prog 51 #[.pointer (some ⟨p,0,none⟩),.int .i64 11] w (wP w0 p s c en k n 9 8 (AA d) w (bB (oO d s en) s en i)):=by
 have HC:=aa (Wp w0 p s c en k i n w h d);have hpw:=h.lt;clear h;generalize bB (oO d s en) s en i=R at HC ⊢;go_enter func51,ntmps51;go_wp2_with fail;refine HC.out.mono ?_;intro e u hr;cases R with
 | error z =>
  obtain ⟨rfl,hb⟩:=hr;exact ⟨rfl,rfl,hb⟩
 | ok v =>
  obtain ⟨l,j⟩:=v;obtain ⟨⟨v,rfl,hv⟩,h1,h2⟩:=hr;obtain ⟨oV,kV,rfl⟩:=Row.len hv;have HV:=aa (aR.keep (Az d) (wQ w u hpw 12 (.slice oV l.length kV)) hv);have HR:=aa (h1.V2 (.slice oV l.length kV));have HB:=aa (h2.trans (But.set p 12 u (.slice oV l.length kV)));have c12:=h1.cell 12 _ rfl;have f12:=h1.ax 12;clear hv h1 h2 HC;generalize l.length=nl at *;go_wp2;go_end0;exact ⟨rfl,⟨_,HV.out,HR.out⟩,HB.out⟩
end
namespace aI
def Fc:EA Int:=λw _ g o x=>w.cell? ⟨g,o,none⟩=some (.int .i64 x)
theorem AY:wO Fc:=λw w' S S' hk g o x hb h=>gZ hk hb h
def zE (s:AH) (en i:Nat):R (List Int):=bd (ru s en i) λa j=>.ok ([a],j)
theorem CsX {w u:AG} (hw:w.heap.size<=u.heap.size) (l:Int) (t:TypeId):aR 1 Fc (u.alloc (.cells #[.int .i64 l] t)) (Since w.heap.size (u.alloc (.cells #[.int .i64 l] t)) none) (.slice (some ⟨u.heap.size,0,none⟩) 1 1) [l] :=
 ⟨by simp,.inr ⟨u.heap.size,0,1,rfl,λi x hx=>by
  match i,hx with
  | 0,hx =>
   have:l=x:=by simpa using hx
   subst this;exact ⟨⟨hw,by simp,by simp⟩,by have:=Gx u (.int .i64 l) t 0 _ rfl;rw [uH] at this;exact this⟩
  | i+1,hx=>simp at hx⟩⟩
end aI
section
variable (w0:AG) (p:Nat) (s:AH) (c:Nat->Value) (en k i n:Nat) (w:AG) (h:RS w0 p s c en k i n w)
include h
theorem Rx (hU:∀u,AS w0 u->mI u):Calls prog 51 #[.pointer (some ⟨p,0,none⟩),.int .i64 0] w (cz w0 p s c en k n Ko w (yj s en i)):=by
 have HC:=aa (aag w0 p s c en k i n w h hU);clear h hU;generalize yj s en i=R at HC ⊢;go_enter func51,ntmps51;go_wp2_with fail;refine HC.out.mono ?_;intro e u hr;cases R with
 | error z =>
  obtain ⟨rfl,hb⟩:=hr;exact ⟨rfl,rfl,hb⟩
 | ok v =>
  obtain ⟨l,j⟩:=v;obtain ⟨⟨v,rfl,hv⟩,h1,h2⟩:=hr;have hv:v=.tuple #[]:=hv;subst hv;have HR:=aa (⟨h1,h2⟩:_/\_);clear h1 h2 HC;go_wp2;go_end0;exact ⟨⟨_,rfl,rfl⟩,HR.out.1,HR.out.2⟩
theorem acH:Calls prog 51 #[.pointer (some ⟨p,0,none⟩),.int .i64 8] w (wP w0 p s c en k n 7 1 Fc w (zE s en i)):=by
 have HC:=aa (jU w0 p s c en k i n w h);have hpw:=h.lt;clear h;unfold zE;generalize ru s en i=R at HC ⊢;go_enter func51,ntmps51;go_wp2_with fail;refine HC.out.mono ?_;intro e u hr;cases R with
 | error z =>
  obtain ⟨rfl,hb⟩:=hr;exact ⟨rfl,rfl,hb⟩
 | ok v =>
  obtain ⟨l,j⟩:=v;obtain ⟨⟨v,rfl,hv⟩,h1,h2⟩:=hr;have hv:v=.int .i64 l:=hv;subst hv;have h3:=h1.on (aQ u (.cells #[.int .i64 l] 3));have HR:=aa (h3.VY (.slice (some ⟨u.heap.size,0,none⟩) 1 1));have HB:=aa ((h2.trans (But.of p (aQ u (.cells #[.int .i64 l] 3)))).trans (But.set p 10 _ (.slice (some ⟨u.heap.size,0,none⟩) 1 1)));have HV:=aa (aR.keep AY (wQ w _ hpw 10 (.slice (some ⟨u.heap.size,0,none⟩) 1 1)) (CsX (w:=w) h2.size l 3));have c7:=h3.cell 10 _ rfl;have f7:=h3.ax 10;clear h1 h2 h3 HC;go_wp2;go_end0;rw [aK];exact ⟨rfl,⟨_,HV.out,HR.out⟩,HB.out⟩
end
namespace aI
theorem RS.end_ {w0 w:AG} {p:Nat} {s:AH} {c:Nat->Value} {en k i n:Nat} (h:RS w0 p s c en k i n w) {m:Nat} (h1:i<=m) (h2:m<=s.size):RS w0 p s c m k i n (w.setCell ⟨p,2,none⟩ (.int .i64 m)) :=
 ⟨h.below.setCell h.base _,h.base,heap_setCell_same w p 2 _ _ _ h.blk,h1,h2,h.big⟩
structure vn (p:Nat) (w w':AG):Prop where
 os:w'.os=w.os
 tape:w'.tape=w.tape
 output:w'.output=w.output
 size:w.heap.size<=w'.heap.size
 block:∀k,k<w.heap.size->k≠p->(∀cur z,w.heap[k]?≠some (.cells cur 55 z))->w'.heap[k]?=w.heap[k]?
theorem But.t {p:Nat} {w w':AG} (h:But p w w'):vn p w w':=⟨h.os,h.tape,h.output,h.size,λk hk hp _=>h.block k hk (by simpa using hp)⟩
theorem vn.trans {p:Nat} {w w' u:AG} (h:vn p w w') (h':vn p w' u):vn p w u :=
 ⟨h'.os.trans h.os,h'.tape.trans h.tape,h'.output.trans h.output,eU h.size h'.size,λk hk hp hf=>(h'.block k (jg hk h.size) hp (by rw [h.block k hk hp hf];exact hf)).trans (h.block k hk hp hf)⟩
def rO (σ:Type):=σ->Nat->Nat->R σ
def FX {σ:Type} (p:Nat) (M:σ->(Nat->Value)->Nat->Nat->AG->Prop):Prop:=∀st c k n w w',M st c k n w->But p w w'->M st c k n w'
def lY {σ:Type} (w0:AG) (p:Nat) (s:AH) (M:σ->(Nat->Value)->Nat->Nat->AG->Prop) (en:Nat) (w:AG) (x:R σ) (e:Ending) (w':AG):Prop :=
 match x with
 | .ok (st,j)=>e=.returned (.tuple #[])/\(∃c k n,RS w0 p s c en k j n w'/\M st c k n w')/\vn p w w'
 | .error z=>e=.panicked (gave z)/\AS w0 w'
def oJ {σ:Type} (w0:AG) (p:Nat) (s:AH) (M:σ->(Nat->Value)->Nat->Nat->AG->Prop) (sec:rO σ) (id:Int):Prop :=
 ∀st c en k i n w,RS w0 p s c en k i n w->M st c k n w->Calls prog 51 #[.pointer (some ⟨p,0,none⟩),.int .i64 id] w (lY w0 p s M en w (sec st en i))
def uE {σ:Type} (sec:rO σ) (s:AH) (st:σ) (en i:Nat):R σ :=
 bd (ru s en i) λz j=>bd (sec st (min en (j+z.toNat)) j) λst' m=>if m=j+z.toNat then .ok (st',m) else .error 50
theorem UH {w0 w:AG} {p o:Nat} {v:Value} (h:AS w0 (w.setCell ⟨p,o,none⟩ v)) (hp:w0.heap.size<=p):AS w0 w :=
 ⟨h.os,h.tape,h.output,by have:=h.size;simpa using this,λk hk=>by rw [<- h.block k hk,Below.heap_setCell _ _ _ _ (by show k≠p;omega)]⟩
theorem IX {p:Nat} {w w':AG} (h:But p w w') {b o:Nat} {v:Value} (hb:b≠p) (hc:w.cell? ⟨b,o,none⟩=some v):w'.cell? ⟨b,o,none⟩=some v :=
 World.grownBy.cell h hc (by simp [hb])
end aI
theorem UI {σ:Type} {w0:AG} {p:Nat} {s:AH} {M:σ->(Nat->Value)->Nat->Nat->AG->Prop} {sec:rO σ} {id:Int} (hS:oJ w0 p s M sec id) (st:σ) (c:Nat->Value) (en k i n br bi:Nat) (w:AG) (h:RS w0 p s c en k i n w) (hM:M st c k n w)
  (cr:w.cell? ⟨br,0,none⟩=some (.pointer (some ⟨p,0,none⟩))) (ci:w.cell? ⟨bi,0,none⟩=some (.int .i64 id)) :
  Calls prog 50 #[.pointer (some ⟨br,0,none⟩),.pointer (some ⟨bi,0,none⟩)] w (lY w0 p s M en w (sec st en i)):=by
 have HC:=aa (hS st c en k i n w h hM);clear h hM hS;generalize sec st en i=X at HC ⊢;go_enter func50,ntmps50;go_wp2_with fail;refine HC.out.mono ?_;intro e u hr;cases X with
 | error z =>
  obtain ⟨rfl,hb⟩:=hr;exact ⟨rfl,rfl,hb⟩
 | ok v =>
  obtain ⟨l,j⟩:=v;obtain ⟨rfl,hr⟩:=hr;have HR:=aa hr;clear hr HC;go_wp2;go_end0;exact ⟨rfl,HR.out⟩
theorem M7 {σ:Type} {w0:AG} {p:Nat} {s:AH} {M:σ->(Nat->Value)->Nat->Nat->AG->Prop} (hK:FX p M) {sec:rO σ} {id:Int} (hS:oJ w0 p s M sec id) (st:σ) (c:Nat->Value) (en k i n br bi:Nat) (w:AG) (h:RS w0 p s c en k i n w) (hM:M st c k n w)
  (cr:w.cell? ⟨br,0,none⟩=some (.pointer (some ⟨p,0,none⟩))) (ci:w.cell? ⟨bi,0,none⟩=some (.int .i64 id)) (hbr:br≠p) (Dg:bi≠p) :
  Calls prog 49 #[.pointer (some ⟨p,0,none⟩),.func (.func 50) #[] #[.pointer (some ⟨br,0,none⟩),.pointer (some ⟨bi,0,none⟩)]] w (lY w0 p s M en w (uE sec s st en i)):=by
 have HC:=aa (jU w0 p s c en k i n w h);have H:=aa h;have HM:=aa hM;unfold uE;cases hR:ru s en i with
 | error z =>
  rw [hR] at HC;clear h hM;go_enter func49,ntmps49;go_wp2_with fail;refine HC.out.mono ?_;rintro e u ⟨rfl,hb⟩;exact ⟨rfl,rfl,hb⟩
 | ok vv =>
  obtain ⟨zi,j⟩:=vv;obtain ⟨hij,UJ,hz0,hz1⟩:=tu h.len hR;rw [hR] at HC;obtain ⟨z,rfl⟩:=Int.eq_ofNat_of_zero_le hz0;have hlen:=h.len;have hbig:=h.big;clear h hM hR;rw [aK,show Int.toNat (z:Int)=z from rfl]
  have HI:Hid (∀(u1:AG) (E:Nat),RS w0 p s c en k j n u1->But p w u1->j<=E->E<=en->Calls prog 50 #[.pointer (some ⟨br,0,none⟩),.pointer (some ⟨bi,0,none⟩)] (u1.setCell ⟨p,2,none⟩ (.int .i64 E)) (λe w'=>lY w0 p s M E (u1.setCell ⟨p,2,none⟩ (.int .i64 E)) (sec st E j) e w')):=aa λu1 E h1 hB IY Dh=>by
   have wM:But p w (u1.setCell ⟨p,2,none⟩ (.int .i64 E)):=hB.trans (But.set p 2 u1 _);exact UI hS st c E k j n br bi _ (h1.end_ IY (by omega)) (hK _ _ _ _ _ _ HM.out wM) (IX wM hbr cr) (IX wM Dg ci)
  have HJ:Hid (∀(u1:AG) (E:Nat) (w3:AG) (st':σ) (m:Nat),But p w u1->vn p (u1.setCell ⟨p,2,none⟩ (.int .i64 E)) w3->(∃c k n,RS w0 p s c E k m n w3/\M st' c k n w3)->E<=en ->
    ((∃c k n,RS w0 p s c en k m n (w3.setCell ⟨p,2,none⟩ (.int .i64 en))/\M st' c k n (w3.setCell ⟨p,2,none⟩ (.int .i64 en)))/\vn p w (w3.setCell ⟨p,2,none⟩ (.int .i64 en)))/\w3.cell? ⟨p,1,none⟩=some (.int .i64 m)/\w3.cell? ⟨p,2,none⟩=some (.int .i64 E)/\w3.frozen? ⟨p,2,none⟩=false):=aa λu1 E w3 st' m hB hb3 ⟨c3,k3,n3,h3,UK⟩ hE=>by
   have hbs:=But.set p 2 w3 (.int .i64 (en:Int));exact ⟨⟨⟨c3,k3,n3,h3.end_ (eU h3.le hE) hlen,hK _ _ _ _ _ _ UK hbs⟩,((But.t (But.trans hB (But.set p 2 u1 _))).trans hb3).trans (But.t hbs)⟩,h3.cell 1 _ rfl,h3.cell 2 _ rfl,h3.ax 2⟩
  clear cr ci hS hK H HM;have HX:=aa (λu1 h1 hB=>HI.out u1 (min en (j+z)) h1 hB (by omega) (by omega));have Aj:=aa (λu1 w3 st' m hB hb3 hx=>HJ.out u1 (min en (j+z)) w3 st' m hB hb3 hx (by omega));clear HI HJ;rw [show ((min en (j+z):Nat):Int)=min (en:Int) ((j:Int)+(z:Int)) by omega] at HX Aj;generalize sec st (min en (j+z)) j=X at HX ⊢;have fin:Hid (∀e w',lY w0 p s M en w (bd X λst' m=>if m=j+z then .ok (st',m) else .error 50) e w'->lY w0 p s M en w (bd X λst' m=>if m=j+z then .ok (st',m) else .error 50) e w'):=aa λ_ _ h=>h;go_enter func49,ntmps49;go_wp2_with fail;refine HC.out.mono ?_;rintro e u ⟨⟨v,rfl,hv⟩,h1,h2⟩;have hv:v=.int .i64 z:=hv;subst hv;have d1:=h1.cell 1 _ rfl;have d2:=h1.cell 2 _ rfl;have H1:=aa h1;have H2:=aa h2;clear h1 h2 HC hv;go_wp2_with fail;go_quiet (fail);have h1':=H1.out.on (mE u nq);have dH:But p w (u.drewN nq):=H2.out.trans (But.of p (mE u nq));generalize u.drewN nq=u1 at *;clear d1 d2 H1 H2;have e1:=h1'.cell 1 _ rfl;have e2:=h1'.cell 2 _ rfl;have f2:=h1'.ax 2;have H1:=aa h1';have HB:=aa dH;clear h1' dH;go_wp2_with fail;refine (HX.out u1 H1.out HB.out).mono ?_;intro e w3 hr;cases X with
  | error zz =>
   obtain ⟨rfl,hb⟩:=hr;exact ⟨rfl,rfl,hb⟩
  | ok vv =>
   obtain ⟨st',m⟩:=vv;obtain ⟨rfl,hx,hb3⟩:=hr;obtain ⟨hr3,c1,c2,f3⟩:=Aj.out u1 w3 st' m HB.out hb3 hx;have HR3:=aa hr3;clear hr3 hx hb3 HX Aj H1 HB e1 e2 f2;by_cases hm:m=j+z
   ·have dm:((m:Int)==(j:Int)+(z:Int))=true:=by simp;omega
    go_wp2_with fail;refine (dA _ _).mono ?_;rintro e w' ⟨rfl,rfl⟩;go_wp2;go_end0;refine fin.out _ _ ?_;rw [aK,AE hm];exact ⟨rfl,HR3.out.1,HR3.out.2⟩
   have dm:((m:Int)==(j:Int)+(z:Int))=false:=by simp;omega
   have UL:=aa HR3.out.1;go_wp2_with fail;refine (iX _ _).mono ?_;rintro e w' ⟨rfl,rfl⟩;obtain ⟨c',k',n',h',_⟩:=UL.out;refine ⟨rfl,fin.out _ _ ?_⟩;rw [aK,AD hm];exact ⟨rfl,UH h'.below h'.base⟩
end Go.Proofs.YtcfifbgemfladaaGreatDoor
