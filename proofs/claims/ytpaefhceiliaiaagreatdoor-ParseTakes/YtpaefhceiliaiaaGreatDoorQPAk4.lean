/- Texts that the claim needs. -/
import Derived.Test.YtpaefhceiliaiaaGreatDoorQPAk3
import Derived.Test.YtpaefhceiliaiaaGreatDoorQPAk2
import Derived.Laws.EntriesVeiled
namespace Go.Proofs.YtpaefhceiliaiaaGreatDoor
open Go.RowKit Lx Pz
set_option linter.unusedVariables false
set_option maxRecDepth 100000
set_option maxHeartbeats 4000000
namespace Pz
theorem Av {u:World} {b:Nat} {T:TypeId} {cs vs:Array Value} (h:u.heap[b]?=some (.cells cs T (0,0))) (hc:cs.size=vs.size):(u.setCells b 0 vs.toList).heap[b]?=some (.cells vs T (0,0)):=by
 rw [Bj b T vs.toList 0 u cs h (by simp;omega)];have hd:List.drop vs.size cs.toList = []:=List.drop_eq_nil_of_le (by simp [hc]);simp [hd]
theorem Au {u:World} {b:Nat} {T:TypeId} {cs:Array Value} (h:u.heap[b]?=some (.cells cs T (0,0))):u.there b 0 cs.size:=fun j hj=>by
 refine ⟨?_,?_⟩
 ·unfold World.cell?;rw [h,Nat.zero_add];show (cs[j]?).isSome=true;rw [Array.getElem?_eq_getElem hj];rfl
 ·unfold World.frozen?;rw [h];simp
theorem af {W:World} {b:Nat} {T:TypeId} {vs:Array Value} (h:W.heap[b]?=some (.cells vs T (0,0))) (j:Nat) (v:Value) (hv:vs[j]?=some v):W.cell? ⟨b,j,none⟩=some v:=by
 unfold World.cell?;rw [h];exact hv
theorem WW {w u:World} {p:Nat} {T:TypeId} {cs:Array Value} (hb:Below w.heap.size w u) (hp:w.heap[p]?=some (.cells cs T (0,0))) (v:Value):Below w.heap.size (w.setCell ⟨p,1,none⟩ v) (u.setCell ⟨p,1,none⟩ v):=by
 have hpl:p<w.heap.size:=(Array.getElem?_eq_some_iff.1 hp).1;have H6:u.heap[p]?=some (.cells cs T (0,0)):=by rw [hb.block p hpl];exact hp
 refine ⟨hb.os,hb.tape,hb.output,by simpa using hb.size,fun k hk=>?_⟩;by_cases e:k=p
 ·subst e;rw [heap_setCell_same u k 1 cs T v H6,heap_setCell_same w k 1 cs T v hp]
 ·rw [Below.heap_setCell u ⟨p,1,none⟩ _ _ (fun h=>e h),Below.heap_setCell w ⟨p,1,none⟩ _ _ (fun h=>e h)];exact hb.block k hk
theorem PR.step {w0 w u:World} {p:Nat} {L:List Tk} {vL:Value} {en:Int} {i j:Nat} (h:PR w0 p L vL en i w) (hj:j<=L.length) (hb:Below w.heap.size w u) (vs:List Value) :
  PR w0 p L vL en j ((u.setCell ⟨p,1,none⟩ (.int .i64 j)).setCells w.heap.size 0 vs)/\But p w ((u.setCell ⟨p,1,none⟩ (.int .i64 j)).setCells w.heap.size 0 vs):=by
 have h1:=WW hb h.blk (.int .i64 j);have h2:=nC w.heap.size w.heap.size (Nat.le_refl _) vs 0 _ _ h1;have hs:(w.setCell ⟨p,1,none⟩ (.int .i64 (j:Int))).heap.size=w.heap.size:=by simp
 have h3:Below (w.setCell ⟨p,1,none⟩ (.int .i64 (j:Int))).heap.size (w.setCell ⟨p,1,none⟩ (.int .i64 (j:Int))) ((u.setCell ⟨p,1,none⟩ (.int .i64 j)).setCells w.heap.size 0 vs):=by rw [hs];exact h2
 exact ⟨(h.at_ hj).on h3,(But.set p 1 w _).trans (But.of p h3)⟩
end Pz
theorem jS (w0:World) (p:Nat) (L:List Tk) (vL:Value) (en:Int) (i:Nat) (K:Int) (hK:K≠0) (w:World) (h:PR w0 p L vL en i w) :
  Calls Tryz.prog 121 #[.pointer (some ⟨p,0,none⟩),.int .i64 K] w (Rp w0 p L vL en (fun (t:Tk) v _=>v=dD t) w (bL L en K i)):=by
 have pV:w.alloc (.cells #[.int .i64 0,.string ⟨#[]⟩,.int .i64 0,.int .i64 0] 47)=wA w:=rfl;have xx:=h.on (uQ w);have H:=ae (iE w0 p L vL en i _ xx);have HP:=ae xx;have yN:=ae (An.start w);have uR:=sV w;have acX:=h.lt;have HW:=ae h;unfold bL;have hi:(tk L en i).k=K->i<L.length:=fun hs=>G0 L en (by rw [hs];exact hK);generalize tk L en i=t at *;by_cases hs:t.k=K
 ·rw [if_pos hs];have hi2:=hi hs;have hw1:=MJ hi2 h.few;have HI:=ae hi2;obtain ⟨k,x,n,a⟩:=t;simp only at *;have q1:(k != K)=false:=by rw [hs];simp
  clear hs h hi hi2 xx hK;go_enter Tryz.func121,Tryz.ntmps121;go_wp2_with fail;refine Calls.mono (show Calls _ _ _ _ _ from H.out) ?_;rintro e u ⟨rfl,hb⟩;obtain ⟨u2,hu2,eZ,hb2,m0,m1,m2,m3,hpl⟩:=kX (HP.out.on hb) k x n a;have aB:=ae ((yN.out.on hb).on hb2);have qW:Hid (Below w.heap.size w u2):=ae (au (au (uQ w) hb) hb2);have hlt2:u.heap.size<u2.heap.size:=by rw [hu2];simp
  have wW:=ae eZ;have hwq:w.heap.size<u.heap.size:=by have:=hb.size;omega
  have c1:u2.cell? ⟨p,1,none⟩=some (.int .i64 i):=eZ.cell 1 _ rfl;have f1:=eZ.iD 1;have hne:p≠u.heap.size:=by omega
  go_upto_region 2 with fail;rw [<- hu2];generalize u.heap.size=q at *;clear hu2 hb hb2 eZ H pV;have hmq:w.heap.size≠q:=by omega
  have hmp:w.heap.size≠p:=by omega
  have Ih:(u2.setCell ⟨p,1,none⟩ (.int .i64 ((i+1:Nat):Int))).heap[w.heap.size]?=some (.cells #[.int .i64 0,.string ⟨#[]⟩,.int .i64 0,.int .i64 0] 47 (0,0)):=by
   rw [Below.heap_setCell u2 ⟨p,1,none⟩ _ _ (fun h=>hmp h)];exact aB.out.blk
  have n0:(u2.setCell ⟨p,1,none⟩ (.int .i64 ((i+1:Nat):Int))).cell? ⟨q,0,none⟩=some (.int .i64 k):=by unfold World.cell?;rw [Below.heap_setCell u2 ⟨p,1,none⟩ _ _ (Ne.symm hne)];exact m0
  have n1:(u2.setCell ⟨p,1,none⟩ (.int .i64 ((i+1:Nat):Int))).cell? ⟨q,1,none⟩=some (.string x):=by unfold World.cell?;rw [Below.heap_setCell u2 ⟨p,1,none⟩ _ _ (Ne.symm hne)];exact m1
  have n2:(u2.setCell ⟨p,1,none⟩ (.int .i64 ((i+1:Nat):Int))).cell? ⟨q,2,none⟩=some (.int .i64 n):=by unfold World.cell?;rw [Below.heap_setCell u2 ⟨p,1,none⟩ _ _ (Ne.symm hne)];exact m2
  have n3:(u2.setCell ⟨p,1,none⟩ (.int .i64 ((i+1:Nat):Int))).cell? ⟨q,3,none⟩=some (.int .i64 a):=by unfold World.cell?;rw [Below.heap_setCell u2 ⟨p,1,none⟩ _ _ (Ne.symm hne)];exact m3
  have HF:=ae (HW.out.step (j:=i+1) HI.out qW.out (#[.int .i64 k,.string x,.int .i64 n,.int .i64 a]:Array Value).toList);have ay:=ae (Au Ih);have Bl:=ae (Av Ih (vs:=#[.int .i64 k,.string x,.int .i64 n,.int .i64 a]) rfl);have uS:(u2.setCell ⟨p,1,none⟩ (.int .i64 ((i:Int)+1)))=(u2.setCell ⟨p,1,none⟩ (.int .i64 ((i+1:Nat):Int))):=rfl;go_upto_region 5 with fail
  try rw [uS]
  generalize u2.setCell ⟨p,1,none⟩ (.int .i64 ((i+1:Nat):Int))=u3 at *;obtain ⟨W2,aX⟩:∃W2,u3.setCells w.heap.size 0 (#[.int .i64 k,.string x,.int .i64 n,.int .i64 a]:Array Value).toList=W2:=⟨_,rfl⟩;rw [aX] at HF Bl;have HW2:=ae aX;clear uS aX Ih m0 m1 m2 m3 c1 f1;go_wp2_with (refine wpList_store_mid rfl 47 (.tmp 4) (.tmp 22) rfl w.heap.size 0 #[.int .i64 k,.string x,.int .i64 n,.int .i64 a] rfl rfl ay.out eQ (by simp [Value.oneCell']) ?_;rw [HW2.out]);have z5:=af Bl.out 0 _ rfl;have z6:=af Bl.out 1 _ rfl;have z7:=af Bl.out 2 _ rfl;have z8:=af Bl.out 3 _ rfl;refine bodyPost_ret (v:=.agg #[.int .i64 k,.string x,.int .i64 n,.int .i64 a]) (by simp [results,Tryz.results121,go_sem,z5,z6,z7,z8]) rfl ⟨⟨_,rfl,rfl⟩,HF.out.1,HF.out.2⟩
 ·rw [if_neg hs];have q1:(t.k != K)=true:=bne_iff_ne.2 hs;obtain ⟨k,x,n,a⟩:=t;simp only at *;clear hs h hi xx hK;go_enter Tryz.func121,Tryz.ntmps121;go_wp2_with fail;refine Calls.mono (show Calls _ _ _ _ _ from H.out) ?_;rintro e u ⟨rfl,hb⟩;obtain ⟨u2,hu2,eZ,hb2,m0,m1,m2,m3,hpl⟩:=kX (HP.out.on hb) k x n a;have HB2:=ae eZ.below;go_upto_region 2 with fail;rw [<- hu2];generalize u.heap.size=q at *;clear hu2 hb hb2 eZ H pV;go_wp2;exact ⟨rfl,rfl,HB2.out⟩
end Go.Proofs.YtpaefhceiliaiaaGreatDoor
namespace Go.Proofs.YtpaefhceiliaiaaGreatDoor
open Go.RowKit Lx Pz bB
set_option linter.unusedVariables false
namespace Pz
def cf (p:Nat) (w:World):Nat->Nat->Nat->Value->Prop
 | 0,_,_,_=>False
 | d+1,b,o,t=>p<=b/\∃k x n es a v,t=nd k x e0 n es [] a/\w.cell? ⟨b,o,none⟩=some (.int .i64 k)/\w.cell? ⟨b,o+1,none⟩=some (.string x)/\w.cell? ⟨b,o+2,none⟩=some (.int .i64 n)/\w.cell? ⟨b,o+3,none⟩=some v/\w.cell? ⟨b,o+4,none⟩=some (.int .i64 a)/\Row 5 (cf p w d) v es
def dN (p:Nat) (w:World):Nat->Nat->Nat->Value->Prop
 | 0,_,_,_=>False
 | d+1,b,o,t=>p<=b/\∃k x n es v,t=nd k x e0 n es [] 0/\w.cell? ⟨b,o,none⟩=some (.int .i64 k)/\w.cell? ⟨b,o+1,none⟩=some (.string x)/\w.cell? ⟨b,o+2,none⟩=some (.int .i64 n)/\w.cell? ⟨b,o+3,none⟩=some v/\Row 4 (dN p w d) v es
def dm (p:Nat) (w:World):Nat->Nat->Nat->Value->Prop
 | 0,_,_,_=>False
 | d+1,b,o,t=>p<=b/\∃k x y n es ps a v u,t=nd k x y n es ps a/\w.cell? ⟨b,o,none⟩=some (.int .i64 k)/\w.cell? ⟨b,o+1,none⟩=some (.string x)/\w.cell? ⟨b,o+2,none⟩=some (.string y)/\w.cell? ⟨b,o+3,none⟩=some (.int .i64 n)/\w.cell? ⟨b,o+4,none⟩=some v/\w.cell? ⟨b,o+5,none⟩=some u/\w.cell? ⟨b,o+6,none⟩=some (.int .i64 a)/\Row 7 (dm p w d) v es/\Row 5 (cf p w d) u ps
section
variable {p:Nat} {w w':World}
def bS (p:Nat) (w w':World):Prop:=∀k,p<=k->k<w.heap.size->w'.heap[k]?=w.heap[k]?
theorem iO (hb:bS p w w') {b o:Nat} {v:Value} (hp:p<=b) (h:w.cell? ⟨b,o,none⟩=some v):w'.cell? ⟨b,o,none⟩=some v:=by
 have hl:b<w.heap.size:=World.block_lt_of_cell? _ _ h;unfold World.cell? at h ⊢;rw [hb b hp hl];exact h
theorem cf.but (hb:bS p w w'):∀(d b o:Nat) (t:Value),cf p w d b o t->cf p w' d b o t
 | 0,_,_,_,h=>h
 | d+1,b,o,t,⟨hp,k,x,n,es,a,v,h0,h1,h2,h3,h4,h5,h6⟩ =>
  ⟨hp,k,x,n,es,a,v,h0,iO hb hp h1,iO hb hp h2,iO hb hp h3,iO hb hp h4,iO hb hp h5,Row.imp h6 fun b o t _ h=>cf.but hb d b o t h⟩
theorem dN.but (hb:bS p w w'):∀(d b o:Nat) (t:Value),dN p w d b o t->dN p w' d b o t
 | 0,_,_,_,h=>h
 | d+1,b,o,t,⟨hp,k,x,n,es,v,h0,h1,h2,h3,h4,h5⟩ =>
  ⟨hp,k,x,n,es,v,h0,iO hb hp h1,iO hb hp h2,iO hb hp h3,iO hb hp h4,Row.imp h5 fun b o t _ h=>dN.but hb d b o t h⟩
theorem dm.but (hb:bS p w w'):∀(d b o:Nat) (t:Value),dm p w d b o t->dm p w' d b o t
 | 0,_,_,_,h=>h
 | d+1,b,o,t,⟨hp,k,x,y,n,es,ps,a,v,u,h0,h1,h2,h3,h4,h5,h6,h7,h8,h9⟩ =>
  ⟨hp,k,x,y,n,es,ps,a,v,u,h0,iO hb hp h1,iO hb hp h2,iO hb hp h3,iO hb hp h4,iO hb hp h5,iO hb hp h6,iO hb hp h7,Row.imp h8 fun b o t _ h=>dm.but hb d b o t h,Row.imp h9 fun b o t _ h=>cf.but hb d b o t h⟩
theorem cf.up:∀(d b o:Nat) (t:Value),cf p w d b o t->cf p w (d+1) b o t
 | 0,_,_,_,h=>False.elim h
 | d+1,b,o,t,⟨hp,k,x,n,es,a,v,h0,h1,h2,h3,h4,h5,h6⟩=>⟨hp,k,x,n,es,a,v,h0,h1,h2,h3,h4,h5,Row.imp h6 fun b o t _ h=>cf.up d b o t h⟩
theorem dN.up:∀(d b o:Nat) (t:Value),dN p w d b o t->dN p w (d+1) b o t
 | 0,_,_,_,h=>False.elim h
 | d+1,b,o,t,⟨hp,k,x,n,es,v,h0,h1,h2,h3,h4,h5⟩=>⟨hp,k,x,n,es,v,h0,h1,h2,h3,h4,Row.imp h5 fun b o t _ h=>dN.up d b o t h⟩
theorem dm.up:∀(d b o:Nat) (t:Value),dm p w d b o t->dm p w (d+1) b o t
 | 0,_,_,_,h=>False.elim h
 | d+1,b,o,t,⟨hp,k,x,y,n,es,ps,a,v,u,h0,h1,h2,h3,h4,h5,h6,h7,h8,h9⟩=>⟨hp,k,x,y,n,es,ps,a,v,u,h0,h1,h2,h3,h4,h5,h6,h7,Row.imp h8 fun b o t _ h=>dm.up d b o t h,Row.imp h9 fun b o t _ h=>cf.up d b o t h⟩
theorem tO {F:Nat->Nat->Nat->Value->Prop} (hF:∀d b o t,F d b o t->F (d+1) b o t) {d e:Nat} (h:d<=e) {b o:Nat} {t:Value} (hx:F d b o t):F e b o t:=by
 induction h with
 | refl=>exact hx
 | step _ ih=>exact hF _ _ _ _ ih
end
def jU (p d:Nat) (w:World) (t:Value) (v:Value):Prop:=∃k x n es a u,t=nd k x e0 n es [] a/\v=.agg #[.int .i64 k,.string x,.int .i64 n,u,.int .i64 a]/\Row 5 (cf p w d) u es
def nY (p d:Nat) (w:World) (t:Value) (v:Value):Prop:=∃k x n es u,t=nd k x e0 n es [] 0/\v=.agg #[.int .i64 k,.string x,.int .i64 n,u]/\Row 4 (dN p w d) u es
def iY (p d:Nat) (w:World) (t:Value) (v:Value):Prop:=∃k x y n es ps a u z,t=nd k x y n es ps a/\v=.agg #[.int .i64 k,.string x,.string y,.int .i64 n,u,z,.int .i64 a]/\Row 7 (dm p w d) u es/\Row 5 (cf p w d) z ps
section
variable {p d:Nat} {w w':World} {t v:Value}
theorem jU.but (hb:bS p w w') (h:jU p d w t v):jU p d w' t v:=by
 obtain ⟨k,x,n,es,a,u,h0,h1,h2⟩:=h;exact ⟨k,x,n,es,a,u,h0,h1,Row.imp h2 fun b o t _ h=>cf.but hb d b o t h⟩
theorem nY.but (hb:bS p w w') (h:nY p d w t v):nY p d w' t v:=by
 obtain ⟨k,x,n,es,u,h0,h1,h2⟩:=h;exact ⟨k,x,n,es,u,h0,h1,Row.imp h2 fun b o t _ h=>dN.but hb d b o t h⟩
theorem iY.but (hb:bS p w w') (h:iY p d w t v):iY p d w' t v:=by
 obtain ⟨k,x,y,n,es,ps,a,u,z,h0,h1,h2,h3⟩:=h;exact ⟨k,x,y,n,es,ps,a,u,z,h0,h1,Row.imp h2 fun b o t _ h=>dm.but hb d b o t h,Row.imp h3 fun b o t _ h=>cf.but hb d b o t h⟩
theorem jU.up (h:jU p d w t v) {e:Nat} (he:d<=e):jU p e w t v:=by
 obtain ⟨k,x,n,es,a,u,h0,h1,h2⟩:=h;exact ⟨k,x,n,es,a,u,h0,h1,Row.imp h2 fun b o t _ h=>tO (F:=cf p w) cf.up he h⟩
theorem nY.up (h:nY p d w t v) {e:Nat} (he:d<=e):nY p e w t v:=by
 obtain ⟨k,x,n,es,u,h0,h1,h2⟩:=h;exact ⟨k,x,n,es,u,h0,h1,Row.imp h2 fun b o t _ h=>tO (F:=dN p w) dN.up he h⟩
theorem iY.up (h:iY p d w t v) {e:Nat} (he:d<=e):iY p e w t v:=by
 obtain ⟨k,x,y,n,es,ps,a,u,z,h0,h1,h2,h3⟩:=h;exact ⟨k,x,y,n,es,ps,a,u,z,h0,h1,Row.imp h2 fun b o t _ h=>tO (F:=dm p w) dm.up he h,Row.imp h3 fun b o t _ h=>tO (F:=cf p w) cf.up he h⟩
end
theorem bS.but {p q:Nat} {w w':World} (h:But q w w') (hq:q<p):bS p w w':=fun k hk hl=>h.block k hl (by omega)
theorem bS.of {p:Nat} {w w':World} (h:Below w.heap.size w w'):bS p w w':=fun k _ hl=>h.block k hl
theorem cf.lo {p q:Nat} {w:World} (hq:q<=p):∀(d b o:Nat) (t:Value),cf p w d b o t->cf q w d b o t
 | 0,_,_,_,h=>h
 | d+1,b,o,t,⟨hp,k,x,n,es,a,v,h0,h1,h2,h3,h4,h5,h6⟩=>⟨Nat.le_trans hq hp,k,x,n,es,a,v,h0,h1,h2,h3,h4,h5,Row.imp h6 fun b o t _ h=>cf.lo hq d b o t h⟩
theorem dN.lo {p q:Nat} {w:World} (hq:q<=p):∀(d b o:Nat) (t:Value),dN p w d b o t->dN q w d b o t
 | 0,_,_,_,h=>h
 | d+1,b,o,t,⟨hp,k,x,n,es,v,h0,h1,h2,h3,h4,h5⟩=>⟨Nat.le_trans hq hp,k,x,n,es,v,h0,h1,h2,h3,h4,Row.imp h5 fun b o t _ h=>dN.lo hq d b o t h⟩
theorem dm.lo {p q:Nat} {w:World} (hq:q<=p):∀(d b o:Nat) (t:Value),dm p w d b o t->dm q w d b o t
 | 0,_,_,_,h=>h
 | d+1,b,o,t,⟨hp,k,x,y,n,es,ps,a,v,u,h0,h1,h2,h3,h4,h5,h6,h7,h8,h9⟩=>⟨Nat.le_trans hq hp,k,x,y,n,es,ps,a,v,u,h0,h1,h2,h3,h4,h5,h6,h7,Row.imp h8 fun b o t _ h=>dm.lo hq d b o t h,Row.imp h9 fun b o t _ h=>cf.lo hq d b o t h⟩
theorem jU.lo {p q d:Nat} {w:World} {t v:Value} (h:jU p d w t v) (hq:q<=p):jU q d w t v:=by
 obtain ⟨k,x,n,es,a,u,h0,h1,h2⟩:=h;exact ⟨k,x,n,es,a,u,h0,h1,Row.imp h2 fun b o t _ h=>cf.lo hq d b o t h⟩
theorem nY.lo {p q d:Nat} {w:World} {t v:Value} (h:nY p d w t v) (hq:q<=p):nY q d w t v:=by
 obtain ⟨k,x,n,es,u,h0,h1,h2⟩:=h;exact ⟨k,x,n,es,u,h0,h1,Row.imp h2 fun b o t _ h=>dN.lo hq d b o t h⟩
theorem iY.lo {p q d:Nat} {w:World} {t v:Value} (h:iY p d w t v) (hq:q<=p):iY q d w t v:=by
 obtain ⟨k,x,y,n,es,ps,a,u,z,h0,h1,h2,h3⟩:=h;exact ⟨k,x,y,n,es,ps,a,u,z,h0,h1,Row.imp h2 fun b o t _ h=>dm.lo hq d b o t h,Row.imp h3 fun b o t _ h=>cf.lo hq d b o t h⟩
theorem vV {α:Type} (c:Nat) (f:Nat->Nat->α->Prop):Row c f (.slice none 0 0) []:=⟨by simp,.inl ⟨rfl,none,0,rfl⟩⟩
end Pz
end Go.Proofs.YtpaefhceiliaiaaGreatDoor
namespace Go.Proofs.YtpaefhceiliaiaaGreatDoor
open Go.RowKit Lx Pz
set_option linter.unusedVariables false
set_option maxRecDepth 100000
set_option maxHeartbeats 4000000
namespace Pz
def bg (K:Int) (X:ByteArray) (t:Tk):Bool:=K == 0 || (K == t.k && (decide (X=e0) || decide (X=t.x)))
theorem Jq {w:World} {K:Int} {X:ByteArray} {f:Value} {T:TypeId} {k:Int} {x:ByteArray} {n a:Int}:Below w.heap.size w ((w.alloc (.cells #[.int .i64 K,.string X,f] T)).alloc (.cells #[.int .i64 k,.string x,.int .i64 n,.int .i64 a] 47)):=((Below.refl _ w).alloc (Nat.le_refl _) _).alloc (by simp) _
theorem Jr {s:ByteArray} (h:s=e0):s.toList.isEmpty=true:=by rw [h,ByteArray.toList_eq];rfl
theorem Js {s:ByteArray} (h:¬ s=e0):s.toList.isEmpty=false:=by
 rw [ByteArray.toList_eq,List.isEmpty_eq_false_iff];intro e;exact h (ByteArray.ext (Array.toList_inj.1 e))
end Pz
theorem lj (K:Int) (X:ByteArray) (f:Value) (t:Tk) (w:World) :
  Calls Tryz.prog 153 #[.agg #[.int .i64 K,.string X,f],dD t] w fun e w'=>e=.returned (.bool (bg K X t))/\Below w.heap.size w w':=by
 obtain ⟨k,x,n,a⟩:=t;have HB:=ae (Jq (w:=w) (K:=K) (X:=X) (f:=f) (T:=163) (k:=k) (x:=x) (n:=n) (a:=a));obtain ⟨R,hR⟩:∃R,R=bg K X ⟨k,x,n,a⟩:=⟨_,rfl⟩;rw [<- hR];unfold bg at hR;simp only at hR;cases h0:K == 0 with
 | true =>
  rw [h0] at hR;have HR:=ae hR;clear hR;go_enter Tryz.func153,Tryz.ntmps153;go_wp2;go_ret;exact ⟨aC HR.out.symm,HB.out⟩
 | false =>
  cases h1:K == k with
  | false =>
   rw [h0,h1] at hR;have HR:=ae hR;clear hR;go_enter Tryz.func153,Tryz.ntmps153;go_wp2;go_ret;exact ⟨aC HR.out.symm,HB.out⟩
  | true =>
   by_cases hx:X=e0
   ·have q1:=Jr hx;rw [h0,h1,decide_eq_true hx] at hR;have HR:=ae hR;clear hR hx;go_enter Tryz.func153,Tryz.ntmps153;go_wp2;go_ret;exact ⟨aC HR.out.symm,HB.out⟩
   ·have q1:=Js hx;by_cases hy:X=x
    ·have q2:=qQ hy;rw [h0,h1,decide_eq_false hx,decide_eq_true hy] at hR;have HR:=ae hR;clear hR hx hy;go_enter Tryz.func153,Tryz.ntmps153;go_wp2;go_ret;exact ⟨aC HR.out.symm,HB.out⟩
    ·have q2:=nW hy;rw [h0,h1,decide_eq_false hx,decide_eq_false hy] at hR;have HR:=ae hR;clear hR hx hy;go_enter Tryz.func153,Tryz.ntmps153;go_wp2;go_ret;exact ⟨aC HR.out.symm,HB.out⟩
theorem nX (K:Int) (X:ByteArray) (f:Value) (t:Tk) (w:World) :
  Calls Tryz.prog 206 #[.agg #[.int .i64 K,.string X,f],dD t] w fun e w'=>e=.returned (.bool (bg K X t))/\Below w.heap.size w w':=by
 obtain ⟨k,x,n,a⟩:=t;have HB:=ae (Jq (w:=w) (K:=K) (X:=X) (f:=f) (T:=207) (k:=k) (x:=x) (n:=n) (a:=a));obtain ⟨R,hR⟩:∃R,R=bg K X ⟨k,x,n,a⟩:=⟨_,rfl⟩;rw [<- hR];unfold bg at hR;simp only at hR;cases h0:K == 0 with
 | true =>
  rw [h0] at hR;have HR:=ae hR;clear hR;go_enter Tryz.func206,Tryz.ntmps206;go_wp2;go_ret;exact ⟨aC HR.out.symm,HB.out⟩
 | false =>
  cases h1:K == k with
  | false =>
   rw [h0,h1] at hR;have HR:=ae hR;clear hR;go_enter Tryz.func206,Tryz.ntmps206;go_wp2;go_ret;exact ⟨aC HR.out.symm,HB.out⟩
  | true =>
   by_cases hx:X=e0
   ·have q1:=Jr hx;rw [h0,h1,decide_eq_true hx] at hR;have HR:=ae hR;clear hR hx;go_enter Tryz.func206,Tryz.ntmps206;go_wp2;go_ret;exact ⟨aC HR.out.symm,HB.out⟩
   ·have q1:=Js hx;by_cases hy:X=x
    ·have q2:=qQ hy;rw [h0,h1,decide_eq_false hx,decide_eq_true hy] at hR;have HR:=ae hR;clear hR hx hy;go_enter Tryz.func206,Tryz.ntmps206;go_wp2;go_ret;exact ⟨aC HR.out.symm,HB.out⟩
    ·have q2:=nW hy;rw [h0,h1,decide_eq_false hx,decide_eq_false hy] at hR;have HR:=ae hR;clear hR hx hy;go_enter Tryz.func206,Tryz.ntmps206;go_wp2;go_ret;exact ⟨aC HR.out.symm,HB.out⟩
theorem zn (K:Int) (X:ByteArray) (f:Value) (t:Tk) (w:World) :
  Calls Tryz.prog 184 #[.agg #[.int .i64 K,.string X,f],dD t] w fun e w'=>e=.returned (.bool (bg K X t))/\Below w.heap.size w w':=by
 obtain ⟨k,x,n,a⟩:=t;have HB:=ae (Jq (w:=w) (K:=K) (X:=X) (f:=f) (T:=187) (k:=k) (x:=x) (n:=n) (a:=a));obtain ⟨R,hR⟩:∃R,R=bg K X ⟨k,x,n,a⟩:=⟨_,rfl⟩;rw [<- hR];unfold bg at hR;simp only at hR;cases h0:K == 0 with
 | true =>
  rw [h0] at hR;have HR:=ae hR;clear hR;go_enter Tryz.func184,Tryz.ntmps184;go_wp2;go_ret;exact ⟨aC HR.out.symm,HB.out⟩
 | false =>
  cases h1:K == k with
  | false =>
   rw [h0,h1] at hR;have HR:=ae hR;clear hR;go_enter Tryz.func184,Tryz.ntmps184;go_wp2;go_ret;exact ⟨aC HR.out.symm,HB.out⟩
  | true =>
   by_cases hx:X=e0
   ·have q1:=Jr hx;rw [h0,h1,decide_eq_true hx] at hR;have HR:=ae hR;clear hR hx;go_enter Tryz.func184,Tryz.ntmps184;go_wp2;go_ret;exact ⟨aC HR.out.symm,HB.out⟩
   ·have q1:=Js hx;by_cases hy:X=x
    ·have q2:=qQ hy;rw [h0,h1,decide_eq_false hx,decide_eq_true hy] at hR;have HR:=ae hR;clear hR hx hy;go_enter Tryz.func184,Tryz.ntmps184;go_wp2;go_ret;exact ⟨aC HR.out.symm,HB.out⟩
    ·have q2:=nW hy;rw [h0,h1,decide_eq_false hx,decide_eq_false hy] at hR;have HR:=ae hR;clear hR hx hy;go_enter Tryz.func184,Tryz.ntmps184;go_wp2;go_ret;exact ⟨aC HR.out.symm,HB.out⟩
end Go.Proofs.YtpaefhceiliaiaaGreatDoor
namespace Go.Proofs.YtpaefhceiliaiaaGreatDoor
open Go.RowKit Lx Pz bB
set_option linter.unusedVariables false
namespace Pz
theorem uI (g k:Nat) (hk:k≠g):∀(vs:List Value) (o:Nat) (u:World),(u.setCells g o vs).heap[k]?=u.heap[k]?
 | [],_,_=>rfl
 | v :: r,o,u=>by
  rw [World.setCells,uI g k hk r (o+1)];exact Below.heap_setCell u ⟨g,o,none⟩ _ _ hk
structure AP (w0:World) (p:Nat) (L:List Tk) (vL:Value) (en:Int) (w:World) (T:TypeId) (z:Array Value) (i:Nat) (u:World):Prop where
 pr:PR w0 p L vL en i u
 but:But p w u
 blk:u.heap[w.heap.size]?=some (.cells z T (0,0))
 dP:p<w.heap.size
section
variable {w0 w u u':World} {p:Nat} {L:List Tk} {vL:Value} {en:Int} {T:TypeId} {z:Array Value} {i j:Nat}
theorem AP.start (h:PR w0 p L vL en i w) (T:TypeId) (z:Array Value):AP w0 p L vL en w T z i (w.alloc (.cells z T)) :=
 have hb:Below w.heap.size w (w.alloc (.cells z T)):=(Below.refl _ w).alloc (Nat.le_refl _) _
 ⟨h.on hb,But.of p hb,heap_alloc_new w _,h.lt⟩
theorem AP.lt (h:AP w0 p L vL en w T z i u):w.heap.size<u.heap.size:=(Array.getElem?_eq_some_iff.1 h.blk).1
theorem AP.on (h:AP w0 p L vL en w T z i u) (hb:Below u.heap.size u u'):AP w0 p L vL en w T z i u' :=
 ⟨h.pr.on hb,h.but.trans (But.of p hb),by rw [hb.block _ h.lt];exact h.blk,h.dP⟩
theorem AP.call (h:AP w0 p L vL en w T z i u) (h1:PR w0 p L vL en j u') (h2:But p u u'):AP w0 p L vL en w T z j u' :=
 ⟨h1,h.but.trans h2,by rw [h2.block _ h.lt (by have:=h.dP;omega)];exact h.blk,h.dP⟩
theorem AP.put (h:AP w0 p L vL en w T z i u) (vs:Array Value) (hz:z.size=vs.size) :
  ∃W,u.setCells w.heap.size 0 vs.toList=W/\u.there w.heap.size 0 vs.size/\W.heap[w.heap.size]?=some (.cells vs T (0,0))/\PR w0 p L vL en i W/\But p w W/\bS (w.heap.size+1) u W:=by
 have hb:=nC w.heap.size w.heap.size (Nat.le_refl _) vs.toList 0 u u (Below.refl _ u);have hsz:w.heap.size<=u.heap.size:=h.but.size;refine ⟨_,rfl,by have:=Au h.blk;rw [hz] at this;exact this,Av h.blk hz,?_,?_,?_⟩
 ·refine ⟨h.pr.below.trans ?_,h.pr.base,?_,h.pr.le,?_,h.pr.few,h.pr.pK⟩
  ·exact hb.mono (by have:=h.pr.base;have:=h.dP;omega)
  ·rw [hb.block p h.dP];exact h.pr.blk
  ·rcases h.pr.toks with h1|⟨g,c,h1,h2⟩
   ·exact .inl h1
   ·refine .inr ⟨g,c,h1,fun a t ha b v hv=>?_⟩;have hc:=h2 a t ha b v hv;have hg:g<w.heap.size:=Nat.lt_trans (h.pr.pK g 0 _ c h1) h.dP;unfold World.cell? at hc ⊢;rw [hb.block g hg];exact hc
 ·exact ⟨hb.os.trans h.but.os,hb.tape.trans h.but.tape,hb.output.trans h.but.output,Nat.le_trans h.but.size hb.size,fun k hk hp=>by rw [hb.block k hk];exact h.but.block k hk hp⟩
 ·exact fun k hk _=>uI w.heap.size k (by omega) vs.toList 0 u
end
end Pz
end Go.Proofs.YtpaefhceiliaiaaGreatDoor
