/- Texts that the claim needs. -/
import Derived.Test.YtkdbgopgjbfhbaaGreatDoorQPV3
import Derived.Test.YtkdbgopgjbfhbaaGreatDoorQPV2
import Derived.Laws.EntriesVeiled
namespace Go.Proofs.YtkdbgopgjbfhbaaGreatDoor
open Go.RowKit Lx Pz
set_option linter.unusedVariables false
set_option maxRecDepth 100000
set_option maxHeartbeats 4000000
namespace Pz
theorem Ai {u:World} {b:Nat} {T:TypeId} {cs vs:Array Value} (h:u.heap[b]?=some (.cells cs T (0,0))) (hc:cs.size=vs.size):(u.setCells b 0 vs.toList).heap[b]?=some (.cells vs T (0,0)):=by
 rw [CX b T vs.toList 0 u cs h (by simp;omega)];have hd:List.drop vs.size cs.toList = []:=List.drop_eq_nil_of_le (by simp [hc]);simp [hd]
theorem Ah {u:World} {b:Nat} {T:TypeId} {cs:Array Value} (h:u.heap[b]?=some (.cells cs T (0,0))):u.there b 0 cs.size:=fun j hj=>by
 refine ⟨?_,?_⟩
 ·unfold World.cell?;rw [h,Nat.zero_add];show (cs[j]?).isSome=true;rw [Array.getElem?_eq_getElem hj];rfl
 ·unfold World.frozen?;rw [h];simp
theorem af {W:World} {b:Nat} {T:TypeId} {vs:Array Value} (h:W.heap[b]?=some (.cells vs T (0,0))) (j:Nat) (v:Value) (hv:vs[j]?=some v):W.cell? ⟨b,j,none⟩=some v:=by
 unfold World.cell?;rw [h];exact hv
theorem Xp {w u:World} {p:Nat} {T:TypeId} {cs:Array Value} (hb:Below w.heap.size w u) (hp:w.heap[p]?=some (.cells cs T (0,0))) (v:Value):Below w.heap.size (w.setCell ⟨p,1,none⟩ v) (u.setCell ⟨p,1,none⟩ v):=by
 have hpl:p<w.heap.size:=(Array.getElem?_eq_some_iff.1 hp).1;have Jo:u.heap[p]?=some (.cells cs T (0,0)):=by rw [hb.block p hpl];exact hp
 refine ⟨hb.os,hb.tape,hb.output,by simpa using hb.size,fun k hk=>?_⟩;by_cases e:k=p
 ·subst e;rw [heap_setCell_same u k 1 cs T v Jo,heap_setCell_same w k 1 cs T v hp]
 ·rw [Below.heap_setCell u ⟨p,1,none⟩ _ _ (fun h=>e h),Below.heap_setCell w ⟨p,1,none⟩ _ _ (fun h=>e h)];exact hb.block k hk
theorem PR.step {w0 w u:World} {p:Nat} {L:List Tk} {vL:Value} {en:Int} {i j:Nat} (h:PR w0 p L vL en i w) (hj:j<=L.length) (hb:Below w.heap.size w u) (vs:List Value) :
  PR w0 p L vL en j ((u.setCell ⟨p,1,none⟩ (.int .i64 j)).setCells w.heap.size 0 vs)/\But p w ((u.setCell ⟨p,1,none⟩ (.int .i64 j)).setCells w.heap.size 0 vs):=by
 have h1:=Xp hb h.blk (.int .i64 j);have h2:=lZ w.heap.size w.heap.size (Nat.le_refl _) vs 0 _ _ h1;have hs:(w.setCell ⟨p,1,none⟩ (.int .i64 (j:Int))).heap.size=w.heap.size:=by simp
 have h3:Below (w.setCell ⟨p,1,none⟩ (.int .i64 (j:Int))).heap.size (w.setCell ⟨p,1,none⟩ (.int .i64 (j:Int))) ((u.setCell ⟨p,1,none⟩ (.int .i64 j)).setCells w.heap.size 0 vs):=by rw [hs];exact h2
 exact ⟨(h.at_ hj).on h3,(But.set p 1 w _).trans (But.of p h3)⟩
end Pz
theorem kT (w0:World) (p:Nat) (L:List Tk) (vL:Value) (en:Int) (i:Nat) (K:Int) (hK:K≠0) (w:World) (h:PR w0 p L vL en i w) :
  Calls Tryz.prog 121 #[.pointer (some ⟨p,0,none⟩),.int .i64 K] w (Rp w0 p L vL en (fun (t:Tk) v _=>v=dM t) w (bU L en K i)):=by
 have rR:w.alloc (.cells #[.int .i64 0,.string ⟨#[]⟩,.int .i64 0,.int .i64 0] 47)=wA w:=rfl;have yM:=h.on (wH w);have H:=ae (jf w0 p L vL en i _ yM);have HP:=ae yM;have Ar:=ae (An.start w);have wI:=uL w;have ac1:=h.lt;have HW:=ae h;unfold bU;have hi:(tk L en i).k=K->i<L.length:=fun hs=>I4 L en (by rw [hs];exact hK);generalize tk L en i=t at *;by_cases hs:t.k=K
 ·rw [if_pos hs];have hi2:=hi hs;have hw1:=NN hi2 h.few;have HI:=ae hi2;obtain ⟨k,x,n,a⟩:=t;simp only at *;have q1:(k != K)=false:=by rw [hs];simp
  clear hs h hi hi2 yM hK;go_enter Tryz.func121,Tryz.ntmps121;go_wp2_with fail;refine Calls.mono (show Calls _ _ _ _ _ from H.out) ?_;rintro e u ⟨rfl,hb⟩;obtain ⟨u2,hu2,fH,hb2,m0,m1,m2,m3,hpl⟩:=lW (HP.out.on hb) k x n a;have aC:=ae ((Ar.out.on hb).on hb2);have sV:Hid (Below w.heap.size w u2):=ae (ax (ax (wH w) hb) hb2);have hlt2:u.heap.size<u2.heap.size:=by rw [hu2];simp
  have yn:=ae fH;have OU:w.heap.size<u.heap.size:=by have:=hb.size;omega
  have c1:u2.cell? ⟨p,1,none⟩=some (.int .i64 i):=fH.cell 1 _ rfl;have f1:=fH.je 1;have hne:p≠u.heap.size:=by omega
  go_upto_region 2 with fail;rw [<- hu2];generalize u.heap.size=q at *;clear hu2 hb hb2 fH H rR;have hmq:w.heap.size≠q:=by omega
  have hmp:w.heap.size≠p:=by omega
  have Jv:(u2.setCell ⟨p,1,none⟩ (.int .i64 ((i+1:Nat):Int))).heap[w.heap.size]?=some (.cells #[.int .i64 0,.string ⟨#[]⟩,.int .i64 0,.int .i64 0] 47 (0,0)):=by
   rw [Below.heap_setCell u2 ⟨p,1,none⟩ _ _ (fun h=>hmp h)];exact aC.out.blk
  have n0:(u2.setCell ⟨p,1,none⟩ (.int .i64 ((i+1:Nat):Int))).cell? ⟨q,0,none⟩=some (.int .i64 k):=by unfold World.cell?;rw [Below.heap_setCell u2 ⟨p,1,none⟩ _ _ (Ne.symm hne)];exact m0
  have n1:(u2.setCell ⟨p,1,none⟩ (.int .i64 ((i+1:Nat):Int))).cell? ⟨q,1,none⟩=some (.string x):=by unfold World.cell?;rw [Below.heap_setCell u2 ⟨p,1,none⟩ _ _ (Ne.symm hne)];exact m1
  have n2:(u2.setCell ⟨p,1,none⟩ (.int .i64 ((i+1:Nat):Int))).cell? ⟨q,2,none⟩=some (.int .i64 n):=by unfold World.cell?;rw [Below.heap_setCell u2 ⟨p,1,none⟩ _ _ (Ne.symm hne)];exact m2
  have n3:(u2.setCell ⟨p,1,none⟩ (.int .i64 ((i+1:Nat):Int))).cell? ⟨q,3,none⟩=some (.int .i64 a):=by unfold World.cell?;rw [Below.heap_setCell u2 ⟨p,1,none⟩ _ _ (Ne.symm hne)];exact m3
  have HF:=ae (HW.out.step (j:=i+1) HI.out sV.out (#[.int .i64 k,.string x,.int .i64 n,.int .i64 a]:Array Value).toList);have az:=ae (Ah Jv);have CY:=ae (Ai Jv (vs:=#[.int .i64 k,.string x,.int .i64 n,.int .i64 a]) rfl);have OV:(u2.setCell ⟨p,1,none⟩ (.int .i64 ((i:Int)+1)))=(u2.setCell ⟨p,1,none⟩ (.int .i64 ((i+1:Nat):Int))):=rfl;go_upto_region 5 with fail
  try rw [OV]
  generalize u2.setCell ⟨p,1,none⟩ (.int .i64 ((i+1:Nat):Int))=u3 at *;obtain ⟨W2,aY⟩:∃W2,u3.setCells w.heap.size 0 (#[.int .i64 k,.string x,.int .i64 n,.int .i64 a]:Array Value).toList=W2:=⟨_,rfl⟩;rw [aY] at HF CY;have HW2:=ae aY;clear OV aY Jv m0 m1 m2 m3 c1 f1;go_wp2_with (refine wpList_store_mid rfl 47 (.tmp 4) (.tmp 22) rfl w.heap.size 0 #[.int .i64 k,.string x,.int .i64 n,.int .i64 a] rfl rfl az.out fB (by simp [Value.oneCell']) ?_;rw [HW2.out]);have z5:=af CY.out 0 _ rfl;have z6:=af CY.out 1 _ rfl;have z7:=af CY.out 2 _ rfl;have z8:=af CY.out 3 _ rfl;refine bodyPost_ret (v:=.agg #[.int .i64 k,.string x,.int .i64 n,.int .i64 a]) (by simp [results,Tryz.results121,go_sem,z5,z6,z7,z8]) rfl ⟨⟨_,rfl,rfl⟩,HF.out.1,HF.out.2⟩
 ·rw [if_neg hs];have q1:(t.k != K)=true:=bne_iff_ne.2 hs;obtain ⟨k,x,n,a⟩:=t;simp only at *;clear hs h hi yM hK;go_enter Tryz.func121,Tryz.ntmps121;go_wp2_with fail;refine Calls.mono (show Calls _ _ _ _ _ from H.out) ?_;rintro e u ⟨rfl,hb⟩;obtain ⟨u2,hu2,fH,hb2,m0,m1,m2,m3,hpl⟩:=lW (HP.out.on hb) k x n a;have HB2:=ae fH.below;go_upto_region 2 with fail;rw [<- hu2];generalize u.heap.size=q at *;clear hu2 hb hb2 fH H rR;go_wp2;exact ⟨rfl,rfl,HB2.out⟩
end Go.Proofs.YtkdbgopgjbfhbaaGreatDoor
namespace Go.Proofs.YtkdbgopgjbfhbaaGreatDoor
open Go.RowKit Lx Pz bw
set_option linter.unusedVariables false
namespace Pz
def bR (p:Nat) (w:World):Nat->Nat->Nat->Value->Prop
 | 0,_,_,_=>False
 | d+1,b,o,t=>p<=b/\∃k x n es a v,t=nd k x e0 n es [] a/\w.cell? ⟨b,o,none⟩=some (.int .i64 k)/\w.cell? ⟨b,o+1,none⟩=some (.string x)/\w.cell? ⟨b,o+2,none⟩=some (.int .i64 n)/\w.cell? ⟨b,o+3,none⟩=some v/\w.cell? ⟨b,o+4,none⟩=some (.int .i64 a)/\Row 5 (bR p w d) v es
def dw (p:Nat) (w:World):Nat->Nat->Nat->Value->Prop
 | 0,_,_,_=>False
 | d+1,b,o,t=>p<=b/\∃k x n es v,t=nd k x e0 n es [] 0/\w.cell? ⟨b,o,none⟩=some (.int .i64 k)/\w.cell? ⟨b,o+1,none⟩=some (.string x)/\w.cell? ⟨b,o+2,none⟩=some (.int .i64 n)/\w.cell? ⟨b,o+3,none⟩=some v/\Row 4 (dw p w d) v es
def cf (p:Nat) (w:World):Nat->Nat->Nat->Value->Prop
 | 0,_,_,_=>False
 | d+1,b,o,t=>p<=b/\∃k x y n es ps a v u,t=nd k x y n es ps a/\w.cell? ⟨b,o,none⟩=some (.int .i64 k)/\w.cell? ⟨b,o+1,none⟩=some (.string x)/\w.cell? ⟨b,o+2,none⟩=some (.string y)/\w.cell? ⟨b,o+3,none⟩=some (.int .i64 n)/\w.cell? ⟨b,o+4,none⟩=some v/\w.cell? ⟨b,o+5,none⟩=some u/\w.cell? ⟨b,o+6,none⟩=some (.int .i64 a)/\Row 7 (cf p w d) v es/\Row 5 (bR p w d) u ps
section
variable {p:Nat} {w w':World}
def bF (p:Nat) (w w':World):Prop:=∀k,p<=k->k<w.heap.size->w'.heap[k]?=w.heap[k]?
theorem jB (hb:bF p w w') {b o:Nat} {v:Value} (hp:p<=b) (h:w.cell? ⟨b,o,none⟩=some v):w'.cell? ⟨b,o,none⟩=some v:=by
 have hl:b<w.heap.size:=World.block_lt_of_cell? _ _ h;unfold World.cell? at h ⊢;rw [hb b hp hl];exact h
theorem bR.but (hb:bF p w w'):∀(d b o:Nat) (t:Value),bR p w d b o t->bR p w' d b o t
 | 0,_,_,_,h=>h
 | d+1,b,o,t,⟨hp,k,x,n,es,a,v,h0,h1,h2,h3,h4,h5,h6⟩ =>
  ⟨hp,k,x,n,es,a,v,h0,jB hb hp h1,jB hb hp h2,jB hb hp h3,jB hb hp h4,jB hb hp h5,Row.imp h6 fun b o t _ h=>bR.but hb d b o t h⟩
theorem dw.but (hb:bF p w w'):∀(d b o:Nat) (t:Value),dw p w d b o t->dw p w' d b o t
 | 0,_,_,_,h=>h
 | d+1,b,o,t,⟨hp,k,x,n,es,v,h0,h1,h2,h3,h4,h5⟩ =>
  ⟨hp,k,x,n,es,v,h0,jB hb hp h1,jB hb hp h2,jB hb hp h3,jB hb hp h4,Row.imp h5 fun b o t _ h=>dw.but hb d b o t h⟩
theorem cf.but (hb:bF p w w'):∀(d b o:Nat) (t:Value),cf p w d b o t->cf p w' d b o t
 | 0,_,_,_,h=>h
 | d+1,b,o,t,⟨hp,k,x,y,n,es,ps,a,v,u,h0,h1,h2,h3,h4,h5,h6,h7,h8,h9⟩ =>
  ⟨hp,k,x,y,n,es,ps,a,v,u,h0,jB hb hp h1,jB hb hp h2,jB hb hp h3,jB hb hp h4,jB hb hp h5,jB hb hp h6,jB hb hp h7,Row.imp h8 fun b o t _ h=>cf.but hb d b o t h,Row.imp h9 fun b o t _ h=>bR.but hb d b o t h⟩
theorem bR.up:∀(d b o:Nat) (t:Value),bR p w d b o t->bR p w (d+1) b o t
 | 0,_,_,_,h=>False.elim h
 | d+1,b,o,t,⟨hp,k,x,n,es,a,v,h0,h1,h2,h3,h4,h5,h6⟩=>⟨hp,k,x,n,es,a,v,h0,h1,h2,h3,h4,h5,Row.imp h6 fun b o t _ h=>bR.up d b o t h⟩
theorem dw.up:∀(d b o:Nat) (t:Value),dw p w d b o t->dw p w (d+1) b o t
 | 0,_,_,_,h=>False.elim h
 | d+1,b,o,t,⟨hp,k,x,n,es,v,h0,h1,h2,h3,h4,h5⟩=>⟨hp,k,x,n,es,v,h0,h1,h2,h3,h4,Row.imp h5 fun b o t _ h=>dw.up d b o t h⟩
theorem cf.up:∀(d b o:Nat) (t:Value),cf p w d b o t->cf p w (d+1) b o t
 | 0,_,_,_,h=>False.elim h
 | d+1,b,o,t,⟨hp,k,x,y,n,es,ps,a,v,u,h0,h1,h2,h3,h4,h5,h6,h7,h8,h9⟩=>⟨hp,k,x,y,n,es,ps,a,v,u,h0,h1,h2,h3,h4,h5,h6,h7,Row.imp h8 fun b o t _ h=>cf.up d b o t h,Row.imp h9 fun b o t _ h=>bR.up d b o t h⟩
theorem qq {F:Nat->Nat->Nat->Value->Prop} (hF:∀d b o t,F d b o t->F (d+1) b o t) {d e:Nat} (h:d<=e) {b o:Nat} {t:Value} (hx:F d b o t):F e b o t:=by
 induction h with
 | refl=>exact hx
 | step _ ih=>exact hF _ _ _ _ ih
end
def kI (p d:Nat) (w:World) (t:Value) (v:Value):Prop:=∃k x n es a u,t=nd k x e0 n es [] a/\v=.agg #[.int .i64 k,.string x,.int .i64 n,u,.int .i64 a]/\Row 5 (bR p w d) u es
def nP (p d:Nat) (w:World) (t:Value) (v:Value):Prop:=∃k x n es u,t=nd k x e0 n es [] 0/\v=.agg #[.int .i64 k,.string x,.int .i64 n,u]/\Row 4 (dw p w d) u es
def iU (p d:Nat) (w:World) (t:Value) (v:Value):Prop:=∃k x y n es ps a u z,t=nd k x y n es ps a/\v=.agg #[.int .i64 k,.string x,.string y,.int .i64 n,u,z,.int .i64 a]/\Row 7 (cf p w d) u es/\Row 5 (bR p w d) z ps
section
variable {p d:Nat} {w w':World} {t v:Value}
theorem kI.but (hb:bF p w w') (h:kI p d w t v):kI p d w' t v:=by
 obtain ⟨k,x,n,es,a,u,h0,h1,h2⟩:=h;exact ⟨k,x,n,es,a,u,h0,h1,Row.imp h2 fun b o t _ h=>bR.but hb d b o t h⟩
theorem nP.but (hb:bF p w w') (h:nP p d w t v):nP p d w' t v:=by
 obtain ⟨k,x,n,es,u,h0,h1,h2⟩:=h;exact ⟨k,x,n,es,u,h0,h1,Row.imp h2 fun b o t _ h=>dw.but hb d b o t h⟩
theorem iU.but (hb:bF p w w') (h:iU p d w t v):iU p d w' t v:=by
 obtain ⟨k,x,y,n,es,ps,a,u,z,h0,h1,h2,h3⟩:=h;exact ⟨k,x,y,n,es,ps,a,u,z,h0,h1,Row.imp h2 fun b o t _ h=>cf.but hb d b o t h,Row.imp h3 fun b o t _ h=>bR.but hb d b o t h⟩
theorem kI.up (h:kI p d w t v) {e:Nat} (he:d<=e):kI p e w t v:=by
 obtain ⟨k,x,n,es,a,u,h0,h1,h2⟩:=h;exact ⟨k,x,n,es,a,u,h0,h1,Row.imp h2 fun b o t _ h=>qq (F:=bR p w) bR.up he h⟩
theorem nP.up (h:nP p d w t v) {e:Nat} (he:d<=e):nP p e w t v:=by
 obtain ⟨k,x,n,es,u,h0,h1,h2⟩:=h;exact ⟨k,x,n,es,u,h0,h1,Row.imp h2 fun b o t _ h=>qq (F:=dw p w) dw.up he h⟩
theorem iU.up (h:iU p d w t v) {e:Nat} (he:d<=e):iU p e w t v:=by
 obtain ⟨k,x,y,n,es,ps,a,u,z,h0,h1,h2,h3⟩:=h;exact ⟨k,x,y,n,es,ps,a,u,z,h0,h1,Row.imp h2 fun b o t _ h=>qq (F:=cf p w) cf.up he h,Row.imp h3 fun b o t _ h=>qq (F:=bR p w) bR.up he h⟩
end
theorem bF.but {p q:Nat} {w w':World} (h:But q w w') (hq:q<p):bF p w w':=fun k hk hl=>h.block k hl (by omega)
theorem bF.of {p:Nat} {w w':World} (h:Below w.heap.size w w'):bF p w w':=fun k _ hl=>h.block k hl
theorem bR.lo {p q:Nat} {w:World} (hq:q<=p):∀(d b o:Nat) (t:Value),bR p w d b o t->bR q w d b o t
 | 0,_,_,_,h=>h
 | d+1,b,o,t,⟨hp,k,x,n,es,a,v,h0,h1,h2,h3,h4,h5,h6⟩=>⟨Nat.le_trans hq hp,k,x,n,es,a,v,h0,h1,h2,h3,h4,h5,Row.imp h6 fun b o t _ h=>bR.lo hq d b o t h⟩
theorem dw.lo {p q:Nat} {w:World} (hq:q<=p):∀(d b o:Nat) (t:Value),dw p w d b o t->dw q w d b o t
 | 0,_,_,_,h=>h
 | d+1,b,o,t,⟨hp,k,x,n,es,v,h0,h1,h2,h3,h4,h5⟩=>⟨Nat.le_trans hq hp,k,x,n,es,v,h0,h1,h2,h3,h4,Row.imp h5 fun b o t _ h=>dw.lo hq d b o t h⟩
theorem cf.lo {p q:Nat} {w:World} (hq:q<=p):∀(d b o:Nat) (t:Value),cf p w d b o t->cf q w d b o t
 | 0,_,_,_,h=>h
 | d+1,b,o,t,⟨hp,k,x,y,n,es,ps,a,v,u,h0,h1,h2,h3,h4,h5,h6,h7,h8,h9⟩=>⟨Nat.le_trans hq hp,k,x,y,n,es,ps,a,v,u,h0,h1,h2,h3,h4,h5,h6,h7,Row.imp h8 fun b o t _ h=>cf.lo hq d b o t h,Row.imp h9 fun b o t _ h=>bR.lo hq d b o t h⟩
theorem kI.lo {p q d:Nat} {w:World} {t v:Value} (h:kI p d w t v) (hq:q<=p):kI q d w t v:=by
 obtain ⟨k,x,n,es,a,u,h0,h1,h2⟩:=h;exact ⟨k,x,n,es,a,u,h0,h1,Row.imp h2 fun b o t _ h=>bR.lo hq d b o t h⟩
theorem nP.lo {p q d:Nat} {w:World} {t v:Value} (h:nP p d w t v) (hq:q<=p):nP q d w t v:=by
 obtain ⟨k,x,n,es,u,h0,h1,h2⟩:=h;exact ⟨k,x,n,es,u,h0,h1,Row.imp h2 fun b o t _ h=>dw.lo hq d b o t h⟩
theorem iU.lo {p q d:Nat} {w:World} {t v:Value} (h:iU p d w t v) (hq:q<=p):iU q d w t v:=by
 obtain ⟨k,x,y,n,es,ps,a,u,z,h0,h1,h2,h3⟩:=h;exact ⟨k,x,y,n,es,ps,a,u,z,h0,h1,Row.imp h2 fun b o t _ h=>cf.lo hq d b o t h,Row.imp h3 fun b o t _ h=>bR.lo hq d b o t h⟩
theorem xw {α:Type} (c:Nat) (f:Nat->Nat->α->Prop):Row c f (.slice none 0 0) []:=⟨by simp,.inl ⟨rfl,none,0,rfl⟩⟩
end Pz
end Go.Proofs.YtkdbgopgjbfhbaaGreatDoor
namespace Go.Proofs.YtkdbgopgjbfhbaaGreatDoor
open Go.RowKit Lx Pz
set_option linter.unusedVariables false
set_option maxRecDepth 100000
set_option maxHeartbeats 4000000
namespace Pz
def bg (K:Int) (X:ByteArray) (t:Tk):Bool:=K == 0 || (K == t.k && (decide (X=e0) || decide (X=t.x)))
theorem KE {w:World} {K:Int} {X:ByteArray} {f:Value} {T:TypeId} {k:Int} {x:ByteArray} {n a:Int}:Below w.heap.size w ((w.alloc (.cells #[.int .i64 K,.string X,f] T)).alloc (.cells #[.int .i64 k,.string x,.int .i64 n,.int .i64 a] 47)):=((Below.refl _ w).alloc (Nat.le_refl _) _).alloc (by simp) _
theorem KF {s:ByteArray} (h:s=e0):s.toList.isEmpty=true:=by rw [h,ByteArray.toList_eq];rfl
theorem KG {s:ByteArray} (h:¬ s=e0):s.toList.isEmpty=false:=by
 rw [ByteArray.toList_eq,List.isEmpty_eq_false_iff];intro e;exact h (ByteArray.ext (Array.toList_inj.1 e))
end Pz
theorem mb (K:Int) (X:ByteArray) (f:Value) (t:Tk) (w:World) :
  Calls Tryz.prog 153 #[.agg #[.int .i64 K,.string X,f],dM t] w fun e w'=>e=.returned (.bool (bg K X t))/\Below w.heap.size w w':=by
 obtain ⟨k,x,n,a⟩:=t;have HB:=ae (KE (w:=w) (K:=K) (X:=X) (f:=f) (T:=163) (k:=k) (x:=x) (n:=n) (a:=a));obtain ⟨R,hR⟩:∃R,R=bg K X ⟨k,x,n,a⟩:=⟨_,rfl⟩;rw [<- hR];unfold bg at hR;simp only at hR;cases h0:K == 0 with
 | true =>
  rw [h0] at hR;have HR:=ae hR;clear hR;go_enter Tryz.func153,Tryz.ntmps153;go_wp2;go_ret;exact ⟨aO HR.out.symm,HB.out⟩
 | false =>
  cases h1:K == k with
  | false =>
   rw [h0,h1] at hR;have HR:=ae hR;clear hR;go_enter Tryz.func153,Tryz.ntmps153;go_wp2;go_ret;exact ⟨aO HR.out.symm,HB.out⟩
  | true =>
   by_cases hx:X=e0
   ·have q1:=KF hx;rw [h0,h1,decide_eq_true hx] at hR;have HR:=ae hR;clear hR hx;go_enter Tryz.func153,Tryz.ntmps153;go_wp2;go_ret;exact ⟨aO HR.out.symm,HB.out⟩
   ·have q1:=KG hx;by_cases hy:X=x
    ·have q2:=uB hy;rw [h0,h1,decide_eq_false hx,decide_eq_true hy] at hR;have HR:=ae hR;clear hR hx hy;go_enter Tryz.func153,Tryz.ntmps153;go_wp2;go_ret;exact ⟨aO HR.out.symm,HB.out⟩
    ·have q2:=sQ hy;rw [h0,h1,decide_eq_false hx,decide_eq_false hy] at hR;have HR:=ae hR;clear hR hx hy;go_enter Tryz.func153,Tryz.ntmps153;go_wp2;go_ret;exact ⟨aO HR.out.symm,HB.out⟩
theorem qf (K:Int) (X:ByteArray) (f:Value) (t:Tk) (w:World) :
  Calls Tryz.prog 206 #[.agg #[.int .i64 K,.string X,f],dM t] w fun e w'=>e=.returned (.bool (bg K X t))/\Below w.heap.size w w':=by
 obtain ⟨k,x,n,a⟩:=t;have HB:=ae (KE (w:=w) (K:=K) (X:=X) (f:=f) (T:=207) (k:=k) (x:=x) (n:=n) (a:=a));obtain ⟨R,hR⟩:∃R,R=bg K X ⟨k,x,n,a⟩:=⟨_,rfl⟩;rw [<- hR];unfold bg at hR;simp only at hR;cases h0:K == 0 with
 | true =>
  rw [h0] at hR;have HR:=ae hR;clear hR;go_enter Tryz.func206,Tryz.ntmps206;go_wp2;go_ret;exact ⟨aO HR.out.symm,HB.out⟩
 | false =>
  cases h1:K == k with
  | false =>
   rw [h0,h1] at hR;have HR:=ae hR;clear hR;go_enter Tryz.func206,Tryz.ntmps206;go_wp2;go_ret;exact ⟨aO HR.out.symm,HB.out⟩
  | true =>
   by_cases hx:X=e0
   ·have q1:=KF hx;rw [h0,h1,decide_eq_true hx] at hR;have HR:=ae hR;clear hR hx;go_enter Tryz.func206,Tryz.ntmps206;go_wp2;go_ret;exact ⟨aO HR.out.symm,HB.out⟩
   ·have q1:=KG hx;by_cases hy:X=x
    ·have q2:=uB hy;rw [h0,h1,decide_eq_false hx,decide_eq_true hy] at hR;have HR:=ae hR;clear hR hx hy;go_enter Tryz.func206,Tryz.ntmps206;go_wp2;go_ret;exact ⟨aO HR.out.symm,HB.out⟩
    ·have q2:=sQ hy;rw [h0,h1,decide_eq_false hx,decide_eq_false hy] at hR;have HR:=ae hR;clear hR hx hy;go_enter Tryz.func206,Tryz.ntmps206;go_wp2;go_ret;exact ⟨aO HR.out.symm,HB.out⟩
theorem Ba (K:Int) (X:ByteArray) (f:Value) (t:Tk) (w:World) :
  Calls Tryz.prog 184 #[.agg #[.int .i64 K,.string X,f],dM t] w fun e w'=>e=.returned (.bool (bg K X t))/\Below w.heap.size w w':=by
 obtain ⟨k,x,n,a⟩:=t;have HB:=ae (KE (w:=w) (K:=K) (X:=X) (f:=f) (T:=187) (k:=k) (x:=x) (n:=n) (a:=a));obtain ⟨R,hR⟩:∃R,R=bg K X ⟨k,x,n,a⟩:=⟨_,rfl⟩;rw [<- hR];unfold bg at hR;simp only at hR;cases h0:K == 0 with
 | true =>
  rw [h0] at hR;have HR:=ae hR;clear hR;go_enter Tryz.func184,Tryz.ntmps184;go_wp2;go_ret;exact ⟨aO HR.out.symm,HB.out⟩
 | false =>
  cases h1:K == k with
  | false =>
   rw [h0,h1] at hR;have HR:=ae hR;clear hR;go_enter Tryz.func184,Tryz.ntmps184;go_wp2;go_ret;exact ⟨aO HR.out.symm,HB.out⟩
  | true =>
   by_cases hx:X=e0
   ·have q1:=KF hx;rw [h0,h1,decide_eq_true hx] at hR;have HR:=ae hR;clear hR hx;go_enter Tryz.func184,Tryz.ntmps184;go_wp2;go_ret;exact ⟨aO HR.out.symm,HB.out⟩
   ·have q1:=KG hx;by_cases hy:X=x
    ·have q2:=uB hy;rw [h0,h1,decide_eq_false hx,decide_eq_true hy] at hR;have HR:=ae hR;clear hR hx hy;go_enter Tryz.func184,Tryz.ntmps184;go_wp2;go_ret;exact ⟨aO HR.out.symm,HB.out⟩
    ·have q2:=sQ hy;rw [h0,h1,decide_eq_false hx,decide_eq_false hy] at hR;have HR:=ae hR;clear hR hx hy;go_enter Tryz.func184,Tryz.ntmps184;go_wp2;go_ret;exact ⟨aO HR.out.symm,HB.out⟩
end Go.Proofs.YtkdbgopgjbfhbaaGreatDoor
namespace Go.Proofs.YtkdbgopgjbfhbaaGreatDoor
open Go.RowKit Lx Pz bw
set_option linter.unusedVariables false
namespace Pz
theorem uw (g k:Nat) (hk:k≠g):∀(vs:List Value) (o:Nat) (u:World),(u.setCells g o vs).heap[k]?=u.heap[k]?
 | [],_,_=>rfl
 | v :: r,o,u=>by
  rw [World.setCells,uw g k hk r (o+1)];exact Below.heap_setCell u ⟨g,o,none⟩ _ _ hk
structure AP (w0:World) (p:Nat) (L:List Tk) (vL:Value) (en:Int) (w:World) (T:TypeId) (z:Array Value) (i:Nat) (u:World):Prop where
 pr:PR w0 p L vL en i u
 but:But p w u
 blk:u.heap[w.heap.size]?=some (.cells z T (0,0))
 ek:p<w.heap.size
section
variable {w0 w u u':World} {p:Nat} {L:List Tk} {vL:Value} {en:Int} {T:TypeId} {z:Array Value} {i j:Nat}
theorem AP.start (h:PR w0 p L vL en i w) (T:TypeId) (z:Array Value):AP w0 p L vL en w T z i (w.alloc (.cells z T)) :=
 have hb:Below w.heap.size w (w.alloc (.cells z T)):=(Below.refl _ w).alloc (Nat.le_refl _) _
 ⟨h.on hb,But.of p hb,heap_alloc_new w _,h.lt⟩
theorem AP.lt (h:AP w0 p L vL en w T z i u):w.heap.size<u.heap.size:=(Array.getElem?_eq_some_iff.1 h.blk).1
theorem AP.on (h:AP w0 p L vL en w T z i u) (hb:Below u.heap.size u u'):AP w0 p L vL en w T z i u' :=
 ⟨h.pr.on hb,h.but.trans (But.of p hb),by rw [hb.block _ h.lt];exact h.blk,h.ek⟩
theorem AP.call (h:AP w0 p L vL en w T z i u) (h1:PR w0 p L vL en j u') (h2:But p u u'):AP w0 p L vL en w T z j u' :=
 ⟨h1,h.but.trans h2,by rw [h2.block _ h.lt (by have:=h.ek;omega)];exact h.blk,h.ek⟩
theorem AP.put (h:AP w0 p L vL en w T z i u) (vs:Array Value) (hz:z.size=vs.size) :
  ∃W,u.setCells w.heap.size 0 vs.toList=W/\u.there w.heap.size 0 vs.size/\W.heap[w.heap.size]?=some (.cells vs T (0,0))/\PR w0 p L vL en i W/\But p w W/\bF (w.heap.size+1) u W:=by
 have hb:=lZ w.heap.size w.heap.size (Nat.le_refl _) vs.toList 0 u u (Below.refl _ u);have hsz:w.heap.size<=u.heap.size:=h.but.size;refine ⟨_,rfl,by have:=Ah h.blk;rw [hz] at this;exact this,Ai h.blk hz,?_,?_,?_⟩
 ·refine ⟨h.pr.below.trans ?_,h.pr.base,?_,h.pr.le,?_,h.pr.few,h.pr.rL⟩
  ·exact hb.mono (by have:=h.pr.base;have:=h.ek;omega)
  ·rw [hb.block p h.ek];exact h.pr.blk
  ·rcases h.pr.toks with h1|⟨g,c,h1,h2⟩
   ·exact .inl h1
   ·refine .inr ⟨g,c,h1,fun a t ha b v hv=>?_⟩;have hc:=h2 a t ha b v hv;have hg:g<w.heap.size:=Nat.lt_trans (h.pr.rL g 0 _ c h1) h.ek;unfold World.cell? at hc ⊢;rw [hb.block g hg];exact hc
 ·exact ⟨hb.os.trans h.but.os,hb.tape.trans h.but.tape,hb.output.trans h.but.output,Nat.le_trans h.but.size hb.size,fun k hk hp=>by rw [hb.block k hk];exact h.but.block k hk hp⟩
 ·exact fun k hk _=>uw w.heap.size k (by omega) vs.toList 0 u
end
end Pz
end Go.Proofs.YtkdbgopgjbfhbaaGreatDoor
