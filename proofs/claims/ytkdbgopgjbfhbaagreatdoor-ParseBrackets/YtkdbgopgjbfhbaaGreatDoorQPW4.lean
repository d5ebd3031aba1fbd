/- Texts that the claim needs. -/
import Derived.Test.YtkdbgopgjbfhbaaGreatDoorQPW3
import Derived.Test.YtkdbgopgjbfhbaaGreatDoorQPW2
import Derived.Laws.EntriesVeiled
namespace Go.Proofs.YtkdbgopgjbfhbaaGreatDoor
open Go.RowKit Lx Pz
set_option linter.unusedVariables false
set_option maxRecDepth 100000
set_option maxHeartbeats 4000000
namespace Pz
theorem CQ {u:World} {b:Nat} {T:TypeId} {cs vs:Array Value} (h:u.heap[b]?=some (.cells cs T (0,0))) (hc:cs.size=vs.size):(u.setCells b 0 vs.toList).heap[b]?=some (.cells vs T (0,0)):=by
 rw [Dq b T vs.toList 0 u cs h (by simp;omega)];have hd:List.drop vs.size cs.toList = []:=List.drop_eq_nil_of_le (by simp [hc]);simp [hd]
theorem CP {u:World} {b:Nat} {T:TypeId} {cs:Array Value} (h:u.heap[b]?=some (.cells cs T (0,0))):u.there b 0 cs.size:=fun j hj=>by
 refine ⟨?_,?_⟩
 ·unfold World.cell?;rw [h,Nat.zero_add];show (cs[j]?).isSome=true;rw [Array.getElem?_eq_getElem hj];rfl
 ·unfold World.frozen?;rw [h];simp
theorem ak {W:World} {b:Nat} {T:TypeId} {vs:Array Value} (h:W.heap[b]?=some (.cells vs T (0,0))) (j:Nat) (v:Value) (hv:vs[j]?=some v):W.cell? ⟨b,j,none⟩=some v:=by
 unfold World.cell?;rw [h];exact hv
theorem YO {w u:World} {p:Nat} {T:TypeId} {cs:Array Value} (hb:Below w.heap.size w u) (hp:w.heap[p]?=some (.cells cs T (0,0))) (v:Value):Below w.heap.size (w.setCell ⟨p,1,none⟩ v) (u.setCell ⟨p,1,none⟩ v):=by
 have hpl:p<w.heap.size:=(Array.getElem?_eq_some_iff.1 hp).1;have Jw:u.heap[p]?=some (.cells cs T (0,0)):=by rw [hb.block p hpl];exact hp
 refine ⟨hb.os,hb.tape,hb.output,by simpa using hb.size,fun k hk=>?_⟩;by_cases e:k=p
 ·subst e;rw [heap_setCell_same u k 1 cs T v Jw,heap_setCell_same w k 1 cs T v hp]
 ·rw [Below.heap_setCell u ⟨p,1,none⟩ _ _ (fun h=>e h),Below.heap_setCell w ⟨p,1,none⟩ _ _ (fun h=>e h)];exact hb.block k hk
theorem PR.step {w0 w u:World} {p:Nat} {L:List Tk} {vL:Value} {en:Int} {i j:Nat} (h:PR w0 p L vL en i w) (hj:j<=L.length) (hb:Below w.heap.size w u) (vs:List Value) :
  PR w0 p L vL en j ((u.setCell ⟨p,1,none⟩ (.int .i64 j)).setCells w.heap.size 0 vs)/\But p w ((u.setCell ⟨p,1,none⟩ (.int .i64 j)).setCells w.heap.size 0 vs):=by
 have h1:=YO hb h.blk (.int .i64 j);have h2:=nL w.heap.size w.heap.size (Nat.le_refl _) vs 0 _ _ h1;have hs:(w.setCell ⟨p,1,none⟩ (.int .i64 (j:Int))).heap.size=w.heap.size:=by simp
 have h3:Below (w.setCell ⟨p,1,none⟩ (.int .i64 (j:Int))).heap.size (w.setCell ⟨p,1,none⟩ (.int .i64 (j:Int))) ((u.setCell ⟨p,1,none⟩ (.int .i64 j)).setCells w.heap.size 0 vs):=by rw [hs];exact h2
 exact ⟨(h.at_ hj).on h3,(But.set p 1 w _).trans (But.of p h3)⟩
end Pz
theorem lh (w0:World) (p:Nat) (L:List Tk) (vL:Value) (en:Int) (i:Nat) (K:Int) (hK:K≠0) (w:World) (h:PR w0 p L vL en i w) :
  Calls Tryz.prog 121 #[.pointer (some ⟨p,0,none⟩),.int .i64 K] w (Rp w0 p L vL en (fun (t:Tk) v _=>v=dO t) w (bN L en K i)):=by
 have su:w.alloc (.cells #[.int .i64 0,.string ⟨#[]⟩,.int .i64 0,.int .i64 0] 47)=wA w:=rfl;have zo:=h.on (wP w);have H:=ae (jc w0 p L vL en i _ zo);have HP:=ae zo;have Bc:=ae (An.start w);have wQ:=uU w;have aet:=h.lt;have HW:=ae h;unfold bN;have hi:(tk L en i).k=K->i<L.length:=fun hs=>CM L en (by rw [hs];exact hK);generalize tk L en i=t at *;by_cases hs:t.k=K
 ·rw [if_pos hs];have hi2:=hi hs;have hw1:=OZ hi2 h.few;have HI:=ae hi2;obtain ⟨k,x,n,a⟩:=t;simp only at *;have q1:(k != K)=false:=by rw [hs];simp
  clear hs h hi hi2 zo hK;go_enter Tryz.func121,Tryz.ntmps121;go_wp2_with fail;refine Calls.mono (show Calls _ _ _ _ _ from H.out) ?_;rintro e u ⟨rfl,hb⟩;obtain ⟨u2,hu2,fM,hb2,m0,m1,m2,m3,hpl⟩:=mK (HP.out.on hb) k x n a;have aO:=ae ((Bc.out.on hb).on hb2);have tQ:Hid (Below w.heap.size w u2):=ae (aB (aB (wP w) hb) hb2);have hlt2:u.heap.size<u2.heap.size:=by rw [hu2];simp
  have yO:=ae fM;have hwq:w.heap.size<u.heap.size:=by have:=hb.size;omega
  have c1:u2.cell? ⟨p,1,none⟩=some (.int .i64 i):=fM.cell 1 _ rfl;have f1:=fM.jb 1;have hne:p≠u.heap.size:=by omega
  go_upto_region 2 with fail;rw [<- hu2];generalize u.heap.size=q at *;clear hu2 hb hb2 fM H su;have hmq:w.heap.size≠q:=by omega
  have hmp:w.heap.size≠p:=by omega
  have JF:(u2.setCell ⟨p,1,none⟩ (.int .i64 ((i+1:Nat):Int))).heap[w.heap.size]?=some (.cells #[.int .i64 0,.string ⟨#[]⟩,.int .i64 0,.int .i64 0] 47 (0,0)):=by
   rw [Below.heap_setCell u2 ⟨p,1,none⟩ _ _ (fun h=>hmp h)];exact aO.out.blk
  have n0:(u2.setCell ⟨p,1,none⟩ (.int .i64 ((i+1:Nat):Int))).cell? ⟨q,0,none⟩=some (.int .i64 k):=by unfold World.cell?;rw [Below.heap_setCell u2 ⟨p,1,none⟩ _ _ (Ne.symm hne)];exact m0
  have n1:(u2.setCell ⟨p,1,none⟩ (.int .i64 ((i+1:Nat):Int))).cell? ⟨q,1,none⟩=some (.string x):=by unfold World.cell?;rw [Below.heap_setCell u2 ⟨p,1,none⟩ _ _ (Ne.symm hne)];exact m1
  have n2:(u2.setCell ⟨p,1,none⟩ (.int .i64 ((i+1:Nat):Int))).cell? ⟨q,2,none⟩=some (.int .i64 n):=by unfold World.cell?;rw [Below.heap_setCell u2 ⟨p,1,none⟩ _ _ (Ne.symm hne)];exact m2
  have n3:(u2.setCell ⟨p,1,none⟩ (.int .i64 ((i+1:Nat):Int))).cell? ⟨q,3,none⟩=some (.int .i64 a):=by unfold World.cell?;rw [Below.heap_setCell u2 ⟨p,1,none⟩ _ _ (Ne.symm hne)];exact m3
  have HF:=ae (HW.out.step (j:=i+1) HI.out tQ.out (#[.int .i64 k,.string x,.int .i64 n,.int .i64 a]:Array Value).toList);have aC:=ae (CP JF);have Dr:=ae (CQ JF (vs:=#[.int .i64 k,.string x,.int .i64 n,.int .i64 a]) rfl);have PZ:(u2.setCell ⟨p,1,none⟩ (.int .i64 ((i:Int)+1)))=(u2.setCell ⟨p,1,none⟩ (.int .i64 ((i+1:Nat):Int))):=rfl;go_upto_region 5 with fail
  try rw [PZ]
  generalize u2.setCell ⟨p,1,none⟩ (.int .i64 ((i+1:Nat):Int))=u3 at *;obtain ⟨W2,bu⟩:∃W2,u3.setCells w.heap.size 0 (#[.int .i64 k,.string x,.int .i64 n,.int .i64 a]:Array Value).toList=W2:=⟨_,rfl⟩;rw [bu] at HF Dr;have HW2:=ae bu;clear PZ bu JF m0 m1 m2 m3 c1 f1;go_wp2_with (refine wpList_store_mid rfl 47 (.tmp 4) (.tmp 22) rfl w.heap.size 0 #[.int .i64 k,.string x,.int .i64 n,.int .i64 a] rfl rfl aC.out fI (by simp [Value.oneCell']) ?_;rw [HW2.out]);have z5:=ak Dr.out 0 _ rfl;have z6:=ak Dr.out 1 _ rfl;have z7:=ak Dr.out 2 _ rfl;have z8:=ak Dr.out 3 _ rfl;refine bodyPost_ret (v:=.agg #[.int .i64 k,.string x,.int .i64 n,.int .i64 a]) (by simp [results,Tryz.results121,go_sem,z5,z6,z7,z8]) rfl ⟨⟨_,rfl,rfl⟩,HF.out.1,HF.out.2⟩
 ·rw [if_neg hs];have q1:(t.k != K)=true:=bne_iff_ne.2 hs;obtain ⟨k,x,n,a⟩:=t;simp only at *;clear hs h hi zo hK;go_enter Tryz.func121,Tryz.ntmps121;go_wp2_with fail;refine Calls.mono (show Calls _ _ _ _ _ from H.out) ?_;rintro e u ⟨rfl,hb⟩;obtain ⟨u2,hu2,fM,hb2,m0,m1,m2,m3,hpl⟩:=mK (HP.out.on hb) k x n a;have HB2:=ae fM.below;go_upto_region 2 with fail;rw [<- hu2];generalize u.heap.size=q at *;clear hu2 hb hb2 fM H su;go_wp2;exact ⟨rfl,rfl,HB2.out⟩
end Go.Proofs.YtkdbgopgjbfhbaaGreatDoor
namespace Go.Proofs.YtkdbgopgjbfhbaaGreatDoor
open Go.RowKit Lx Pz bq
set_option linter.unusedVariables false
namespace Pz
def di (p:Nat) (w:World):Nat->Nat->Nat->Value->Prop
 | 0,_,_,_=>False
 | d+1,b,o,t=>p<=b/\∃k x n es a v,t=nd k x e0 n es [] a/\w.cell? ⟨b,o,none⟩=some (.int .i64 k)/\w.cell? ⟨b,o+1,none⟩=some (.string x)/\w.cell? ⟨b,o+2,none⟩=some (.int .i64 n)/\w.cell? ⟨b,o+3,none⟩=some v/\w.cell? ⟨b,o+4,none⟩=some (.int .i64 a)/\Row 5 (di p w d) v es
def eM (p:Nat) (w:World):Nat->Nat->Nat->Value->Prop
 | 0,_,_,_=>False
 | d+1,b,o,t=>p<=b/\∃k x n es v,t=nd k x e0 n es [] 0/\w.cell? ⟨b,o,none⟩=some (.int .i64 k)/\w.cell? ⟨b,o+1,none⟩=some (.string x)/\w.cell? ⟨b,o+2,none⟩=some (.int .i64 n)/\w.cell? ⟨b,o+3,none⟩=some v/\Row 4 (eM p w d) v es
def dW (p:Nat) (w:World):Nat->Nat->Nat->Value->Prop
 | 0,_,_,_=>False
 | d+1,b,o,t=>p<=b/\∃k x y n es ps a v u,t=nd k x y n es ps a/\w.cell? ⟨b,o,none⟩=some (.int .i64 k)/\w.cell? ⟨b,o+1,none⟩=some (.string x)/\w.cell? ⟨b,o+2,none⟩=some (.string y)/\w.cell? ⟨b,o+3,none⟩=some (.int .i64 n)/\w.cell? ⟨b,o+4,none⟩=some v/\w.cell? ⟨b,o+5,none⟩=some u/\w.cell? ⟨b,o+6,none⟩=some (.int .i64 a)/\Row 7 (dW p w d) v es/\Row 5 (di p w d) u ps
section
variable {p:Nat} {w w':World}
def bX (p:Nat) (w w':World):Prop:=∀k,p<=k->k<w.heap.size->w'.heap[k]?=w.heap[k]?
theorem jA (hb:bX p w w') {b o:Nat} {v:Value} (hp:p<=b) (h:w.cell? ⟨b,o,none⟩=some v):w'.cell? ⟨b,o,none⟩=some v:=by
 have hl:b<w.heap.size:=World.block_lt_of_cell? _ _ h;unfold World.cell? at h ⊢;rw [hb b hp hl];exact h
theorem di.but (hb:bX p w w'):∀(d b o:Nat) (t:Value),di p w d b o t->di p w' d b o t
 | 0,_,_,_,h=>h
 | d+1,b,o,t,⟨hp,k,x,n,es,a,v,h0,h1,h2,h3,h4,h5,h6⟩ =>
  ⟨hp,k,x,n,es,a,v,h0,jA hb hp h1,jA hb hp h2,jA hb hp h3,jA hb hp h4,jA hb hp h5,Row.imp h6 fun b o t _ h=>di.but hb d b o t h⟩
theorem eM.but (hb:bX p w w'):∀(d b o:Nat) (t:Value),eM p w d b o t->eM p w' d b o t
 | 0,_,_,_,h=>h
 | d+1,b,o,t,⟨hp,k,x,n,es,v,h0,h1,h2,h3,h4,h5⟩ =>
  ⟨hp,k,x,n,es,v,h0,jA hb hp h1,jA hb hp h2,jA hb hp h3,jA hb hp h4,Row.imp h5 fun b o t _ h=>eM.but hb d b o t h⟩
theorem dW.but (hb:bX p w w'):∀(d b o:Nat) (t:Value),dW p w d b o t->dW p w' d b o t
 | 0,_,_,_,h=>h
 | d+1,b,o,t,⟨hp,k,x,y,n,es,ps,a,v,u,h0,h1,h2,h3,h4,h5,h6,h7,h8,h9⟩ =>
  ⟨hp,k,x,y,n,es,ps,a,v,u,h0,jA hb hp h1,jA hb hp h2,jA hb hp h3,jA hb hp h4,jA hb hp h5,jA hb hp h6,jA hb hp h7,Row.imp h8 fun b o t _ h=>dW.but hb d b o t h,Row.imp h9 fun b o t _ h=>di.but hb d b o t h⟩
theorem di.up:∀(d b o:Nat) (t:Value),di p w d b o t->di p w (d+1) b o t
 | 0,_,_,_,h=>False.elim h
 | d+1,b,o,t,⟨hp,k,x,n,es,a,v,h0,h1,h2,h3,h4,h5,h6⟩=>⟨hp,k,x,n,es,a,v,h0,h1,h2,h3,h4,h5,Row.imp h6 fun b o t _ h=>di.up d b o t h⟩
theorem eM.up:∀(d b o:Nat) (t:Value),eM p w d b o t->eM p w (d+1) b o t
 | 0,_,_,_,h=>False.elim h
 | d+1,b,o,t,⟨hp,k,x,n,es,v,h0,h1,h2,h3,h4,h5⟩=>⟨hp,k,x,n,es,v,h0,h1,h2,h3,h4,Row.imp h5 fun b o t _ h=>eM.up d b o t h⟩
theorem dW.up:∀(d b o:Nat) (t:Value),dW p w d b o t->dW p w (d+1) b o t
 | 0,_,_,_,h=>False.elim h
 | d+1,b,o,t,⟨hp,k,x,y,n,es,ps,a,v,u,h0,h1,h2,h3,h4,h5,h6,h7,h8,h9⟩=>⟨hp,k,x,y,n,es,ps,a,v,u,h0,h1,h2,h3,h4,h5,h6,h7,Row.imp h8 fun b o t _ h=>dW.up d b o t h,Row.imp h9 fun b o t _ h=>di.up d b o t h⟩
theorem ug {F:Nat->Nat->Nat->Value->Prop} (hF:∀d b o t,F d b o t->F (d+1) b o t) {d e:Nat} (h:d<=e) {b o:Nat} {t:Value} (hx:F d b o t):F e b o t:=by
 induction h with
 | refl=>exact hx
 | step _ ih=>exact hF _ _ _ _ ih
end
def lu (p d:Nat) (w:World) (t:Value) (v:Value):Prop:=∃k x n es a u,t=nd k x e0 n es [] a/\v=.agg #[.int .i64 k,.string x,.int .i64 n,u,.int .i64 a]/\Row 5 (di p w d) u es
def qY (p d:Nat) (w:World) (t:Value) (v:Value):Prop:=∃k x n es u,t=nd k x e0 n es [] 0/\v=.agg #[.int .i64 k,.string x,.int .i64 n,u]/\Row 4 (eM p w d) u es
def ji (p d:Nat) (w:World) (t:Value) (v:Value):Prop:=∃k x y n es ps a u z,t=nd k x y n es ps a/\v=.agg #[.int .i64 k,.string x,.string y,.int .i64 n,u,z,.int .i64 a]/\Row 7 (dW p w d) u es/\Row 5 (di p w d) z ps
section
variable {p d:Nat} {w w':World} {t v:Value}
theorem lu.but (hb:bX p w w') (h:lu p d w t v):lu p d w' t v:=by
 obtain ⟨k,x,n,es,a,u,h0,h1,h2⟩:=h;exact ⟨k,x,n,es,a,u,h0,h1,Row.imp h2 fun b o t _ h=>di.but hb d b o t h⟩
theorem qY.but (hb:bX p w w') (h:qY p d w t v):qY p d w' t v:=by
 obtain ⟨k,x,n,es,u,h0,h1,h2⟩:=h;exact ⟨k,x,n,es,u,h0,h1,Row.imp h2 fun b o t _ h=>eM.but hb d b o t h⟩
theorem ji.but (hb:bX p w w') (h:ji p d w t v):ji p d w' t v:=by
 obtain ⟨k,x,y,n,es,ps,a,u,z,h0,h1,h2,h3⟩:=h;exact ⟨k,x,y,n,es,ps,a,u,z,h0,h1,Row.imp h2 fun b o t _ h=>dW.but hb d b o t h,Row.imp h3 fun b o t _ h=>di.but hb d b o t h⟩
theorem lu.up (h:lu p d w t v) {e:Nat} (he:d<=e):lu p e w t v:=by
 obtain ⟨k,x,n,es,a,u,h0,h1,h2⟩:=h;exact ⟨k,x,n,es,a,u,h0,h1,Row.imp h2 fun b o t _ h=>ug (F:=di p w) di.up he h⟩
theorem qY.up (h:qY p d w t v) {e:Nat} (he:d<=e):qY p e w t v:=by
 obtain ⟨k,x,n,es,u,h0,h1,h2⟩:=h;exact ⟨k,x,n,es,u,h0,h1,Row.imp h2 fun b o t _ h=>ug (F:=eM p w) eM.up he h⟩
theorem ji.up (h:ji p d w t v) {e:Nat} (he:d<=e):ji p e w t v:=by
 obtain ⟨k,x,y,n,es,ps,a,u,z,h0,h1,h2,h3⟩:=h;exact ⟨k,x,y,n,es,ps,a,u,z,h0,h1,Row.imp h2 fun b o t _ h=>ug (F:=dW p w) dW.up he h,Row.imp h3 fun b o t _ h=>ug (F:=di p w) di.up he h⟩
end
theorem bX.but {p q:Nat} {w w':World} (h:But q w w') (hq:q<p):bX p w w':=fun k hk hl=>h.block k hl (by omega)
theorem bX.of {p:Nat} {w w':World} (h:Below w.heap.size w w'):bX p w w':=fun k _ hl=>h.block k hl
theorem di.lo {p q:Nat} {w:World} (hq:q<=p):∀(d b o:Nat) (t:Value),di p w d b o t->di q w d b o t
 | 0,_,_,_,h=>h
 | d+1,b,o,t,⟨hp,k,x,n,es,a,v,h0,h1,h2,h3,h4,h5,h6⟩=>⟨Nat.le_trans hq hp,k,x,n,es,a,v,h0,h1,h2,h3,h4,h5,Row.imp h6 fun b o t _ h=>di.lo hq d b o t h⟩
theorem eM.lo {p q:Nat} {w:World} (hq:q<=p):∀(d b o:Nat) (t:Value),eM p w d b o t->eM q w d b o t
 | 0,_,_,_,h=>h
 | d+1,b,o,t,⟨hp,k,x,n,es,v,h0,h1,h2,h3,h4,h5⟩=>⟨Nat.le_trans hq hp,k,x,n,es,v,h0,h1,h2,h3,h4,Row.imp h5 fun b o t _ h=>eM.lo hq d b o t h⟩
theorem dW.lo {p q:Nat} {w:World} (hq:q<=p):∀(d b o:Nat) (t:Value),dW p w d b o t->dW q w d b o t
 | 0,_,_,_,h=>h
 | d+1,b,o,t,⟨hp,k,x,y,n,es,ps,a,v,u,h0,h1,h2,h3,h4,h5,h6,h7,h8,h9⟩=>⟨Nat.le_trans hq hp,k,x,y,n,es,ps,a,v,u,h0,h1,h2,h3,h4,h5,h6,h7,Row.imp h8 fun b o t _ h=>dW.lo hq d b o t h,Row.imp h9 fun b o t _ h=>di.lo hq d b o t h⟩
theorem lu.lo {p q d:Nat} {w:World} {t v:Value} (h:lu p d w t v) (hq:q<=p):lu q d w t v:=by
 obtain ⟨k,x,n,es,a,u,h0,h1,h2⟩:=h;exact ⟨k,x,n,es,a,u,h0,h1,Row.imp h2 fun b o t _ h=>di.lo hq d b o t h⟩
theorem qY.lo {p q d:Nat} {w:World} {t v:Value} (h:qY p d w t v) (hq:q<=p):qY q d w t v:=by
 obtain ⟨k,x,n,es,u,h0,h1,h2⟩:=h;exact ⟨k,x,n,es,u,h0,h1,Row.imp h2 fun b o t _ h=>eM.lo hq d b o t h⟩
theorem ji.lo {p q d:Nat} {w:World} {t v:Value} (h:ji p d w t v) (hq:q<=p):ji q d w t v:=by
 obtain ⟨k,x,y,n,es,ps,a,u,z,h0,h1,h2,h3⟩:=h;exact ⟨k,x,y,n,es,ps,a,u,z,h0,h1,Row.imp h2 fun b o t _ h=>dW.lo hq d b o t h,Row.imp h3 fun b o t _ h=>di.lo hq d b o t h⟩
theorem vv {α:Type} (c:Nat) (f:Nat->Nat->α->Prop):Row c f (.slice none 0 0) []:=⟨by simp,.inl ⟨rfl,none,0,rfl⟩⟩
end Pz
end Go.Proofs.YtkdbgopgjbfhbaaGreatDoor
namespace Go.Proofs.YtkdbgopgjbfhbaaGreatDoor
open Go.RowKit Lx Pz
set_option linter.unusedVariables false
set_option maxRecDepth 100000
set_option maxHeartbeats 4000000
namespace Pz
def bg (K:Int) (X:ByteArray) (t:Tk):Bool:=K == 0 || (K == t.k && (decide (X=e0) || decide (X=t.x)))
theorem Lv {w:World} {K:Int} {X:ByteArray} {f:Value} {T:TypeId} {k:Int} {x:ByteArray} {n a:Int}:Below w.heap.size w ((w.alloc (.cells #[.int .i64 K,.string X,f] T)).alloc (.cells #[.int .i64 k,.string x,.int .i64 n,.int .i64 a] 47)):=((Below.refl _ w).alloc (Nat.le_refl _) _).alloc (by simp) _
theorem Ly {s:ByteArray} (h:s=e0):s.toList.isEmpty=true:=by rw [h,ByteArray.toList_eq];rfl
theorem LA {s:ByteArray} (h:¬ s=e0):s.toList.isEmpty=false:=by
 rw [ByteArray.toList_eq,List.isEmpty_eq_false_iff];intro e;exact h (ByteArray.ext (Array.toList_inj.1 e))
end Pz
theorem mR (K:Int) (X:ByteArray) (f:Value) (t:Tk) (w:World) :
  Calls Tryz.prog 153 #[.agg #[.int .i64 K,.string X,f],dO t] w fun e w'=>e=.returned (.bool (bg K X t))/\Below w.heap.size w w':=by
 obtain ⟨k,x,n,a⟩:=t;have HB:=ae (Lv (w:=w) (K:=K) (X:=X) (f:=f) (T:=163) (k:=k) (x:=x) (n:=n) (a:=a));obtain ⟨R,hR⟩:∃R,R=bg K X ⟨k,x,n,a⟩:=⟨_,rfl⟩;rw [<- hR];unfold bg at hR;simp only at hR;cases h0:K == 0 with
 | true =>
  rw [h0] at hR;have HR:=ae hR;clear hR;go_enter Tryz.func153,Tryz.ntmps153;go_wp2;go_ret;exact ⟨bf HR.out.symm,HB.out⟩
 | false =>
  cases h1:K == k with
  | false =>
   rw [h0,h1] at hR;have HR:=ae hR;clear hR;go_enter Tryz.func153,Tryz.ntmps153;go_wp2;go_ret;exact ⟨bf HR.out.symm,HB.out⟩
  | true =>
   by_cases hx:X=e0
   ·have q1:=Ly hx;rw [h0,h1,decide_eq_true hx] at hR;have HR:=ae hR;clear hR hx;go_enter Tryz.func153,Tryz.ntmps153;go_wp2;go_ret;exact ⟨bf HR.out.symm,HB.out⟩
   ·have q1:=LA hx;by_cases hy:X=x
    ·have q2:=uJ hy;rw [h0,h1,decide_eq_false hx,decide_eq_true hy] at hR;have HR:=ae hR;clear hR hx hy;go_enter Tryz.func153,Tryz.ntmps153;go_wp2;go_ret;exact ⟨bf HR.out.symm,HB.out⟩
    ·have q2:=tN hy;rw [h0,h1,decide_eq_false hx,decide_eq_false hy] at hR;have HR:=ae hR;clear hR hx hy;go_enter Tryz.func153,Tryz.ntmps153;go_wp2;go_ret;exact ⟨bf HR.out.symm,HB.out⟩
theorem qW (K:Int) (X:ByteArray) (f:Value) (t:Tk) (w:World) :
  Calls Tryz.prog 206 #[.agg #[.int .i64 K,.string X,f],dO t] w fun e w'=>e=.returned (.bool (bg K X t))/\Below w.heap.size w w':=by
 obtain ⟨k,x,n,a⟩:=t;have HB:=ae (Lv (w:=w) (K:=K) (X:=X) (f:=f) (T:=207) (k:=k) (x:=x) (n:=n) (a:=a));obtain ⟨R,hR⟩:∃R,R=bg K X ⟨k,x,n,a⟩:=⟨_,rfl⟩;rw [<- hR];unfold bg at hR;simp only at hR;cases h0:K == 0 with
 | true =>
  rw [h0] at hR;have HR:=ae hR;clear hR;go_enter Tryz.func206,Tryz.ntmps206;go_wp2;go_ret;exact ⟨bf HR.out.symm,HB.out⟩
 | false =>
  cases h1:K == k with
  | false =>
   rw [h0,h1] at hR;have HR:=ae hR;clear hR;go_enter Tryz.func206,Tryz.ntmps206;go_wp2;go_ret;exact ⟨bf HR.out.symm,HB.out⟩
  | true =>
   by_cases hx:X=e0
   ·have q1:=Ly hx;rw [h0,h1,decide_eq_true hx] at hR;have HR:=ae hR;clear hR hx;go_enter Tryz.func206,Tryz.ntmps206;go_wp2;go_ret;exact ⟨bf HR.out.symm,HB.out⟩
   ·have q1:=LA hx;by_cases hy:X=x
    ·have q2:=uJ hy;rw [h0,h1,decide_eq_false hx,decide_eq_true hy] at hR;have HR:=ae hR;clear hR hx hy;go_enter Tryz.func206,Tryz.ntmps206;go_wp2;go_ret;exact ⟨bf HR.out.symm,HB.out⟩
    ·have q2:=tN hy;rw [h0,h1,decide_eq_false hx,decide_eq_false hy] at hR;have HR:=ae hR;clear hR hx hy;go_enter Tryz.func206,Tryz.ntmps206;go_wp2;go_ret;exact ⟨bf HR.out.symm,HB.out⟩
theorem BA (K:Int) (X:ByteArray) (f:Value) (t:Tk) (w:World) :
  Calls Tryz.prog 184 #[.agg #[.int .i64 K,.string X,f],dO t] w fun e w'=>e=.returned (.bool (bg K X t))/\Below w.heap.size w w':=by
 obtain ⟨k,x,n,a⟩:=t;have HB:=ae (Lv (w:=w) (K:=K) (X:=X) (f:=f) (T:=187) (k:=k) (x:=x) (n:=n) (a:=a));obtain ⟨R,hR⟩:∃R,R=bg K X ⟨k,x,n,a⟩:=⟨_,rfl⟩;rw [<- hR];unfold bg at hR;simp only at hR;cases h0:K == 0 with
 | true =>
  rw [h0] at hR;have HR:=ae hR;clear hR;go_enter Tryz.func184,Tryz.ntmps184;go_wp2;go_ret;exact ⟨bf HR.out.symm,HB.out⟩
 | false =>
  cases h1:K == k with
  | false =>
   rw [h0,h1] at hR;have HR:=ae hR;clear hR;go_enter Tryz.func184,Tryz.ntmps184;go_wp2;go_ret;exact ⟨bf HR.out.symm,HB.out⟩
  | true =>
   by_cases hx:X=e0
   ·have q1:=Ly hx;rw [h0,h1,decide_eq_true hx] at hR;have HR:=ae hR;clear hR hx;go_enter Tryz.func184,Tryz.ntmps184;go_wp2;go_ret;exact ⟨bf HR.out.symm,HB.out⟩
   ·have q1:=LA hx;by_cases hy:X=x
    ·have q2:=uJ hy;rw [h0,h1,decide_eq_false hx,decide_eq_true hy] at hR;have HR:=ae hR;clear hR hx hy;go_enter Tryz.func184,Tryz.ntmps184;go_wp2;go_ret;exact ⟨bf HR.out.symm,HB.out⟩
    ·have q2:=tN hy;rw [h0,h1,decide_eq_false hx,decide_eq_false hy] at hR;have HR:=ae hR;clear hR hx hy;go_enter Tryz.func184,Tryz.ntmps184;go_wp2;go_ret;exact ⟨bf HR.out.symm,HB.out⟩
end Go.Proofs.YtkdbgopgjbfhbaaGreatDoor
namespace Go.Proofs.YtkdbgopgjbfhbaaGreatDoor
open Go.RowKit Lx Pz bq
set_option linter.unusedVariables false
namespace Pz
theorem wH (g k:Nat) (hk:k≠g):∀(vs:List Value) (o:Nat) (u:World),(u.setCells g o vs).heap[k]?=u.heap[k]?
 | [],_,_=>rfl
 | v :: r,o,u=>by
  rw [World.setCells,wH g k hk r (o+1)];exact Below.heap_setCell u ⟨g,o,none⟩ _ _ hk
structure AP (w0:World) (p:Nat) (L:List Tk) (vL:Value) (en:Int) (w:World) (T:TypeId) (z:Array Value) (i:Nat) (u:World):Prop where
 pr:PR w0 p L vL en i u
 but:But p w u
 blk:u.heap[w.heap.size]?=some (.cells z T (0,0))
 ek:p<w.heap.size
section
variable {w0 w u u':World} {p:Nat} {L:List Tk} {vL:Value} {en:Int} {T:TypeId} {z:Array Value} {i j:Nat}
theorem AP.start (h:PR w0 p L vL en i w) (T:TypeId) (z:Array Value):AP w0 p L vL en w T z i (w.alloc (.cells z T)) :=
 have hb:Below w.heap.size w (w.alloc (.cells z T)):=(Below.refl _ w).alloc (Nat.le_refl _) _
 ⟨h.on hb,But.of p hb,heap_alloc_new w _,h.lt⟩
theorem AP.lt (h:AP w0 p L vL en w T z i u):w.heap.size<u.heap.size:=(Array.getElem?_eq_some_iff.1 h.blk).1
theorem AP.on (h:AP w0 p L vL en w T z i u) (hb:Below u.heap.size u u'):AP w0 p L vL en w T z i u' :=
 ⟨h.pr.on hb,h.but.trans (But.of p hb),by rw [hb.block _ h.lt];exact h.blk,h.ek⟩
theorem AP.call (h:AP w0 p L vL en w T z i u) (h1:PR w0 p L vL en j u') (h2:But p u u'):AP w0 p L vL en w T z j u' :=
 ⟨h1,h.but.trans h2,by rw [h2.block _ h.lt (by have:=h.ek;omega)];exact h.blk,h.ek⟩
theorem AP.put (h:AP w0 p L vL en w T z i u) (vs:Array Value) (hz:z.size=vs.size) :
  ∃W,u.setCells w.heap.size 0 vs.toList=W/\u.there w.heap.size 0 vs.size/\W.heap[w.heap.size]?=some (.cells vs T (0,0))/\PR w0 p L vL en i W/\But p w W/\bX (w.heap.size+1) u W:=by
 have hb:=nL w.heap.size w.heap.size (Nat.le_refl _) vs.toList 0 u u (Below.refl _ u);have hsz:w.heap.size<=u.heap.size:=h.but.size;refine ⟨_,rfl,by have:=CP h.blk;rw [hz] at this;exact this,CQ h.blk hz,?_,?_,?_⟩
 ·refine ⟨h.pr.below.trans ?_,h.pr.base,?_,h.pr.le,?_,h.pr.few,h.pr.rX⟩
  ·exact hb.mono (by have:=h.pr.base;have:=h.ek;omega)
  ·rw [hb.block p h.ek];exact h.pr.blk
  ·rcases h.pr.toks with h1|⟨g,c,h1,h2⟩
   ·exact .inl h1
   ·refine .inr ⟨g,c,h1,fun a t ha b v hv=>?_⟩;have hc:=h2 a t ha b v hv;have hg:g<w.heap.size:=Nat.lt_trans (h.pr.rX g 0 _ c h1) h.ek;unfold World.cell? at hc ⊢;rw [hb.block g hg];exact hc
 ·exact ⟨hb.os.trans h.but.os,hb.tape.trans h.but.tape,hb.output.trans h.but.output,Nat.le_trans h.but.size hb.size,fun k hk hp=>by rw [hb.block k hk];exact h.but.block k hk hp⟩
 ·exact fun k hk _=>wH w.heap.size k (by omega) vs.toList 0 u
end
end Pz
end Go.Proofs.YtkdbgopgjbfhbaaGreatDoor
