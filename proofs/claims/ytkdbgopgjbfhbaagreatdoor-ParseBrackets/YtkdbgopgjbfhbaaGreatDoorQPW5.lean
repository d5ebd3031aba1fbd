/- Texts that the claim needs. -/
import Derived.Test.YtkdbgopgjbfhbaaGreatDoorQPW4
namespace Go.Proofs.YtkdbgopgjbfhbaaGreatDoor
open Go.RowKit Lx Pz bq
set_option linter.unusedVariables false
set_option maxRecDepth 100000
set_option maxHeartbeats 4000000
namespace Pz
def aX (B:Nat) (t v:Value) (w:World):Prop:=∃d,ji B d w t v
def cW (B:Nat) (t v:Value) (w:World):Prop:=∃d,lu B d w t v
def fE (B:Nat) (t v:Value) (w:World):Prop:=∃d,qY B d w t v
theorem cO:(Tryz.prog.info? 27).map (·.size)=some 7:=by kernel_rfl
theorem jk:(Tryz.prog.info? 101).map (·.size)=some 5:=by kernel_rfl
theorem jH:(Tryz.prog.info? 79).map (·.size)=some 4:=by kernel_rfl
abbrev bO:Array Value:=#[.int .i64 0,.string ⟨#[]⟩,.string ⟨#[]⟩,.int .i64 0,.slice none 0 0,.slice none 0 0,.int .i64 0]
abbrev iz:Array Value:=#[.int .i64 0,.string ⟨#[]⟩,.int .i64 0,.slice none 0 0,.int .i64 0]
abbrev nR:Array Value:=#[.int .i64 0,.string ⟨#[]⟩,.int .i64 0,.slice none 0 0]
theorem MK (B:Nat) (k:Int) (x y:ByteArray) (n a:Int) (w:World):aX B (nd k x y n [] [] a) (.agg #[.int .i64 k,.string x,.string y,.int .i64 n,.slice none 0 0,.slice none 0 0,.int .i64 a]) w:=⟨0,k,x,y,n,[],[],a,_,_,rfl,rfl,vv _ _,vv _ _⟩
theorem uW (B:Nat) (k:Int) (x:ByteArray) (n a:Int) (w:World):cW B (nd k x e0 n [] [] a) (.agg #[.int .i64 k,.string x,.int .i64 n,.slice none 0 0,.int .i64 a]) w:=⟨0,k,x,n,[],a,_,rfl,rfl,vv _ _⟩
theorem LD (B:Nat) (k:Int) (x:ByteArray) (w:World):fE B (nd k x e0 0 [] [] 0) (.agg #[.int .i64 k,.string x,.int .i64 0,.slice none 0 0]) w:=⟨0,k,x,0,[],_,rfl,rfl,vv _ _⟩
def iJ {α β:Type} (f:α->β):Rd α->Rd β
 | .ok (a,j)=>.ok (f a,j)
 | .error z=>.error z
theorem bA {α:Type} {w0 w w':World} {p:Nat} {L:List Tk} {vL:Value} {en:Int} {V:α->Value->World->Prop} {X:Rd α} {z:Int} (h:X=.error z) (hb:Below w0.heap.size w0 w'):Rp w0 p L vL en V w X (.panicked (Bg z)) w':=by subst h;exact ⟨rfl,hb⟩
theorem cz {α:Type} {w0 w w':World} {p:Nat} {L:List Tk} {vL:Value} {en:Int} {V:α->Value->World->Prop} {X:Rd α} {a:α} {j:Nat} {v:Value} (h:X=.ok (a,j)) (hv:V a v w') (hp:PR w0 p L vL en j w') (hb:But p w w'):Rp w0 p L vL en V w X (.returned v) w':=by subst h;exact ⟨⟨v,rfl,hv⟩,hp,hb⟩
theorem bE {α:Type} {w0 w w':World} {p:Nat} {L:List Tk} {vL:Value} {en:Int} {V:α->Value->World->Prop} {X:Rd α} {z:Int} {e:Ending} (hr:Rp w0 p L vL en V w X e w') (h:X=.error z):e=.panicked (Bg z)/\Below w0.heap.size w0 w':=by subst h;exact hr
theorem bw {α:Type} {w0 w w':World} {p:Nat} {L:List Tk} {vL:Value} {en:Int} {V:α->Value->World->Prop} {X:Rd α} {a:α} {j:Nat} {e:Ending} (hr:Rp w0 p L vL en V w X e w') (h:X=.ok (a,j)):(∃v,e=.returned v/\V a v w')/\PR w0 p L vL en j w'/\But p w w':=by subst h;exact hr
end Pz
theorem Ur (w0:World) (p:Nat) (L:List Tk) (vL:Value) (en:Int) (i:Nat) (w:World) (h:PR w0 p L vL en i w) :
  Calls Tryz.prog 245 #[.pointer (some ⟨p,0,none⟩)] w (Rp w0 p L vL en (aX w.heap.size) w (iJ (fun t=>nd 1 t.x e0 0 [] [] t.a) (bN L en 1 i))):=by
 have HA:=ae (AP.start h 27 bO);have H:=ae (lh w0 p L vL en i 1 (by decide) _ HA.out.pr);obtain ⟨X,hX⟩:∃X,X=iJ (fun t:Tk=>nd 1 t.x e0 0 [] [] t.a) (bN L en 1 i):=⟨_,rfl⟩;rw [<- hX];have HX:=ae hX;clear h hX;go_enter Tryz.func245,Tryz.ntmps245;go_wp2_with fail;refine Calls.mono (show Calls _ _ _ _ _ from H.out) ?_;intro e u hr;cases hR:bN L en 1 i with
 | error z =>
  obtain ⟨rfl,hb⟩:=bE hr hR;have HB:=ae hb;have dQ:=HX.out;rw [hR] at dQ;have aA:=ae dQ;clear hb H dQ hR;go_wp2;exact ⟨rfl,bA aA.out HB.out⟩
 | ok r =>
  obtain ⟨t,j⟩:=r;obtain ⟨⟨v,rfl,hv⟩,hp,hbt⟩:=bw hr hR;subst hv;have fJ:=HX.out;rw [hR] at fJ;obtain ⟨k,x,n,a⟩:=t;have bz:=ae fJ;clear fJ;have aO:=ae (HA.out.call hp hbt);clear hp hbt H HA hR;obtain ⟨u2,hu2,fM,hb2,m0,m1,m2,m3,hpl⟩:=mK aO.out.pr k x n a;have bS:=ae (aO.out.on hb2);go_upto_region 2 with fail
  try rw [<- hu2]
  generalize u.heap.size=q at *;clear hu2 fM hb2 aO;obtain ⟨W,hW,hth,hbk,hpr,aU,_⟩:=bS.out.put #[.int .i64 1,.string x,.string ⟨#[]⟩,.int .i64 0,.slice none 0 0,.slice none 0 0,.int .i64 a] rfl;have HW:=ae hW;have aC:=ae hth;have au:=ae hbk;have HF:=ae (And.intro hpr aU);clear hW hth hbk hpr aU;go_wp2_with (refine wpList_store_mid rfl 27 (.tmp 2) (.tmp 10) rfl w.heap.size 0 #[.int .i64 1,.string x,.string ⟨#[]⟩,.int .i64 0,.slice none 0 0,.slice none 0 0,.int .i64 a] rfl rfl aC.out cO (by simp [Value.oneCell']) ?_;rw [HW.out]);have z0:=ak au.out 0 _ rfl;have z1:=ak au.out 1 _ rfl;have z2:=ak au.out 2 _ rfl;have z3:=ak au.out 3 _ rfl;have z4:=ak au.out 4 _ rfl;have z5:=ak au.out 5 _ rfl;have z6:=ak au.out 6 _ rfl;refine bodyPost_ret (v:=.agg #[.int .i64 1,.string x,.string ⟨#[]⟩,.int .i64 0,.slice none 0 0,.slice none 0 0,.int .i64 a]) (by simp [results,Tryz.results245,go_sem,z0,z1,z2,z3,z4,z5,z6]) rfl (cz bz.out (MK _ _ _ _ _ _ _) HF.out.1 HF.out.2)
theorem Us (w0:World) (p:Nat) (L:List Tk) (vL:Value) (en:Int) (i:Nat) (w:World) (h:PR w0 p L vL en i w) :
  Calls Tryz.prog 246 #[.pointer (some ⟨p,0,none⟩)] w (Rp w0 p L vL en (aX w.heap.size) w (iJ (fun t=>nd 2 e0 e0 t.n [] [] t.a) (bN L en 4 i))):=by
 have HA:=ae (AP.start h 27 bO);have H:=ae (lh w0 p L vL en i 4 (by decide) _ HA.out.pr);obtain ⟨X,hX⟩:∃X,X=iJ (fun t:Tk=>nd 2 e0 e0 t.n [] [] t.a) (bN L en 4 i):=⟨_,rfl⟩;rw [<- hX];have HX:=ae hX;clear h hX;go_enter Tryz.func246,Tryz.ntmps246;go_wp2_with fail;refine Calls.mono (show Calls _ _ _ _ _ from H.out) ?_;intro e u hr;cases hR:bN L en 4 i with
 | error z =>
  obtain ⟨rfl,hb⟩:=bE hr hR;have HB:=ae hb;have dQ:=HX.out;rw [hR] at dQ;have aA:=ae dQ;clear hb H dQ hR;go_wp2;exact ⟨rfl,bA aA.out HB.out⟩
 | ok r =>
  obtain ⟨t,j⟩:=r;obtain ⟨⟨v,rfl,hv⟩,hp,hbt⟩:=bw hr hR;subst hv;have fJ:=HX.out;rw [hR] at fJ;obtain ⟨k,x,n,a⟩:=t;have bz:=ae fJ;clear fJ;have aO:=ae (HA.out.call hp hbt);clear hp hbt H HA hR;obtain ⟨u2,hu2,fM,hb2,m0,m1,m2,m3,hpl⟩:=mK aO.out.pr k x n a;have bS:=ae (aO.out.on hb2);go_upto_region 2 with fail
  try rw [<- hu2]
  generalize u.heap.size=q at *;clear hu2 fM hb2 aO;obtain ⟨W,hW,hth,hbk,hpr,aU,_⟩:=bS.out.put #[.int .i64 2,.string ⟨#[]⟩,.string ⟨#[]⟩,.int .i64 n,.slice none 0 0,.slice none 0 0,.int .i64 a] rfl;have HW:=ae hW;have aC:=ae hth;have au:=ae hbk;have HF:=ae (And.intro hpr aU);clear hW hth hbk hpr aU;go_wp2_with (refine wpList_store_mid rfl 27 (.tmp 2) (.tmp 10) rfl w.heap.size 0 #[.int .i64 2,.string ⟨#[]⟩,.string ⟨#[]⟩,.int .i64 n,.slice none 0 0,.slice none 0 0,.int .i64 a] rfl rfl aC.out cO (by simp [Value.oneCell']) ?_;rw [HW.out]);have z0:=ak au.out 0 _ rfl;have z1:=ak au.out 1 _ rfl;have z2:=ak au.out 2 _ rfl;have z3:=ak au.out 3 _ rfl;have z4:=ak au.out 4 _ rfl;have z5:=ak au.out 5 _ rfl;have z6:=ak au.out 6 _ rfl;refine bodyPost_ret (v:=.agg #[.int .i64 2,.string ⟨#[]⟩,.string ⟨#[]⟩,.int .i64 n,.slice none 0 0,.slice none 0 0,.int .i64 a]) (by simp [results,Tryz.results246,go_sem,z0,z1,z2,z3,z4,z5,z6]) rfl (cz bz.out (MK _ _ _ _ _ _ _) HF.out.1 HF.out.2)
theorem Ju (w0:World) (p:Nat) (L:List Tk) (vL:Value) (en:Int) (i:Nat) (w:World) (h:PR w0 p L vL en i w) :
  Calls Tryz.prog 241 #[.pointer (some ⟨p,0,none⟩)] w (Rp w0 p L vL en (aX w.heap.size) w (iJ (fun t=>nd 8 t.x e0 0 [] [] t.a) (bN L en 2 i))):=by
 have HA:=ae (AP.start h 27 bO);have H:=ae (lh w0 p L vL en i 2 (by decide) _ HA.out.pr);obtain ⟨X,hX⟩:∃X,X=iJ (fun t:Tk=>nd 8 t.x e0 0 [] [] t.a) (bN L en 2 i):=⟨_,rfl⟩;rw [<- hX];have HX:=ae hX;clear h hX;go_enter Tryz.func241,Tryz.ntmps241;go_wp2_with fail;refine Calls.mono (show Calls _ _ _ _ _ from H.out) ?_;intro e u hr;cases hR:bN L en 2 i with
 | error z =>
  obtain ⟨rfl,hb⟩:=bE hr hR;have HB:=ae hb;have dQ:=HX.out;rw [hR] at dQ;have aA:=ae dQ;clear hb H dQ hR;go_wp2;exact ⟨rfl,bA aA.out HB.out⟩
 | ok r =>
  obtain ⟨t,j⟩:=r;obtain ⟨⟨v,rfl,hv⟩,hp,hbt⟩:=bw hr hR;subst hv;have fJ:=HX.out;rw [hR] at fJ;obtain ⟨k,x,n,a⟩:=t;have bz:=ae fJ;clear fJ;have aO:=ae (HA.out.call hp hbt);clear hp hbt H HA hR;obtain ⟨u2,hu2,fM,hb2,m0,m1,m2,m3,hpl⟩:=mK aO.out.pr k x n a;have bS:=ae (aO.out.on hb2);go_upto_region 2 with fail
  try rw [<- hu2]
  generalize u.heap.size=q at *;clear hu2 fM hb2 aO;obtain ⟨W,hW,hth,hbk,hpr,aU,_⟩:=bS.out.put #[.int .i64 8,.string x,.string ⟨#[]⟩,.int .i64 0,.slice none 0 0,.slice none 0 0,.int .i64 a] rfl;have HW:=ae hW;have aC:=ae hth;have au:=ae hbk;have HF:=ae (And.intro hpr aU);clear hW hth hbk hpr aU;go_wp2_with (refine wpList_store_mid rfl 27 (.tmp 2) (.tmp 10) rfl w.heap.size 0 #[.int .i64 8,.string x,.string ⟨#[]⟩,.int .i64 0,.slice none 0 0,.slice none 0 0,.int .i64 a] rfl rfl aC.out cO (by simp [Value.oneCell']) ?_;rw [HW.out]);have z0:=ak au.out 0 _ rfl;have z1:=ak au.out 1 _ rfl;have z2:=ak au.out 2 _ rfl;have z3:=ak au.out 3 _ rfl;have z4:=ak au.out 4 _ rfl;have z5:=ak au.out 5 _ rfl;have z6:=ak au.out 6 _ rfl;refine bodyPost_ret (v:=.agg #[.int .i64 8,.string x,.string ⟨#[]⟩,.int .i64 0,.slice none 0 0,.slice none 0 0,.int .i64 a]) (by simp [results,Tryz.results241,go_sem,z0,z1,z2,z3,z4,z5,z6]) rfl (cz bz.out (MK _ _ _ _ _ _ _) HF.out.1 HF.out.2)
theorem Rz (w0:World) (p:Nat) (L:List Tk) (vL:Value) (en:Int) (i:Nat) (w:World) (h:PR w0 p L vL en i w) :
  Calls Tryz.prog 231 #[.pointer (some ⟨p,0,none⟩)] w (Rp w0 p L vL en (cW w.heap.size) w (iJ (fun t=>nd 2 t.x e0 0 [] [] t.a) (bN L en 1 i))):=by
 have HA:=ae (AP.start h 101 iz);have H:=ae (lh w0 p L vL en i 1 (by decide) _ HA.out.pr);obtain ⟨X,hX⟩:∃X,X=iJ (fun t:Tk=>nd 2 t.x e0 0 [] [] t.a) (bN L en 1 i):=⟨_,rfl⟩;rw [<- hX];have HX:=ae hX;clear h hX;go_enter Tryz.func231,Tryz.ntmps231;go_wp2_with fail;refine Calls.mono (show Calls _ _ _ _ _ from H.out) ?_;intro e u hr;cases hR:bN L en 1 i with
 | error z =>
  obtain ⟨rfl,hb⟩:=bE hr hR;have HB:=ae hb;have dQ:=HX.out;rw [hR] at dQ;have aA:=ae dQ;clear hb H dQ hR;go_wp2;exact ⟨rfl,bA aA.out HB.out⟩
 | ok r =>
  obtain ⟨t,j⟩:=r;obtain ⟨⟨v,rfl,hv⟩,hp,hbt⟩:=bw hr hR;subst hv;have fJ:=HX.out;rw [hR] at fJ;obtain ⟨k,x,n,a⟩:=t;have bz:=ae fJ;clear fJ;have aO:=ae (HA.out.call hp hbt);clear hp hbt H HA hR;obtain ⟨u2,hu2,fM,hb2,m0,m1,m2,m3,hpl⟩:=mK aO.out.pr k x n a;have bS:=ae (aO.out.on hb2);go_upto_region 2 with fail
  try rw [<- hu2]
  generalize u.heap.size=q at *;clear hu2 fM hb2 aO;obtain ⟨W,hW,hth,hbk,hpr,aU,_⟩:=bS.out.put #[.int .i64 2,.string x,.int .i64 0,.slice none 0 0,.int .i64 a] rfl;have HW:=ae hW;have aC:=ae hth;have au:=ae hbk;have HF:=ae (And.intro hpr aU);clear hW hth hbk hpr aU;go_wp2_with (refine wpList_store_mid rfl 101 (.tmp 2) (.tmp 10) rfl w.heap.size 0 #[.int .i64 2,.string x,.int .i64 0,.slice none 0 0,.int .i64 a] rfl rfl aC.out jk (by simp [Value.oneCell']) ?_;rw [HW.out]);have z0:=ak au.out 0 _ rfl;have z1:=ak au.out 1 _ rfl;have z2:=ak au.out 2 _ rfl;have z3:=ak au.out 3 _ rfl;have z4:=ak au.out 4 _ rfl;refine bodyPost_ret (v:=.agg #[.int .i64 2,.string x,.int .i64 0,.slice none 0 0,.int .i64 a]) (by simp [results,Tryz.results231,go_sem,z0,z1,z2,z3,z4]) rfl (cz bz.out (uW _ _ _ _ _ _) HF.out.1 HF.out.2)
theorem RB (w0:World) (p:Nat) (L:List Tk) (vL:Value) (en:Int) (i:Nat) (w:World) (h:PR w0 p L vL en i w) :
  Calls Tryz.prog 233 #[.pointer (some ⟨p,0,none⟩)] w (Rp w0 p L vL en (cW w.heap.size) w (iJ (fun t=>nd 3 e0 e0 t.n [] [] t.a) (bN L en 4 i))):=by
 have HA:=ae (AP.start h 101 iz);have H:=ae (lh w0 p L vL en i 4 (by decide) _ HA.out.pr);obtain ⟨X,hX⟩:∃X,X=iJ (fun t:Tk=>nd 3 e0 e0 t.n [] [] t.a) (bN L en 4 i):=⟨_,rfl⟩;rw [<- hX];have HX:=ae hX;clear h hX;go_enter Tryz.func233,Tryz.ntmps233;go_wp2_with fail;refine Calls.mono (show Calls _ _ _ _ _ from H.out) ?_;intro e u hr;cases hR:bN L en 4 i with
 | error z =>
  obtain ⟨rfl,hb⟩:=bE hr hR;have HB:=ae hb;have dQ:=HX.out;rw [hR] at dQ;have aA:=ae dQ;clear hb H dQ hR;go_wp2;exact ⟨rfl,bA aA.out HB.out⟩
 | ok r =>
  obtain ⟨t,j⟩:=r;obtain ⟨⟨v,rfl,hv⟩,hp,hbt⟩:=bw hr hR;subst hv;have fJ:=HX.out;rw [hR] at fJ;obtain ⟨k,x,n,a⟩:=t;have bz:=ae fJ;clear fJ;have aO:=ae (HA.out.call hp hbt);clear hp hbt H HA hR;obtain ⟨u2,hu2,fM,hb2,m0,m1,m2,m3,hpl⟩:=mK aO.out.pr k x n a;have bS:=ae (aO.out.on hb2);go_upto_region 2 with fail
  try rw [<- hu2]
  generalize u.heap.size=q at *;clear hu2 fM hb2 aO;obtain ⟨W,hW,hth,hbk,hpr,aU,_⟩:=bS.out.put #[.int .i64 3,.string ⟨#[]⟩,.int .i64 n,.slice none 0 0,.int .i64 a] rfl;have HW:=ae hW;have aC:=ae hth;have au:=ae hbk;have HF:=ae (And.intro hpr aU);clear hW hth hbk hpr aU;go_wp2_with (refine wpList_store_mid rfl 101 (.tmp 2) (.tmp 10) rfl w.heap.size 0 #[.int .i64 3,.string ⟨#[]⟩,.int .i64 n,.slice none 0 0,.int .i64 a] rfl rfl aC.out jk (by simp [Value.oneCell']) ?_;rw [HW.out]);have z0:=ak au.out 0 _ rfl;have z1:=ak au.out 1 _ rfl;have z2:=ak au.out 2 _ rfl;have z3:=ak au.out 3 _ rfl;have z4:=ak au.out 4 _ rfl;refine bodyPost_ret (v:=.agg #[.int .i64 3,.string ⟨#[]⟩,.int .i64 n,.slice none 0 0,.int .i64 a]) (by simp [results,Tryz.results233,go_sem,z0,z1,z2,z3,z4]) rfl (cz bz.out (uW _ _ _ _ _ _) HF.out.1 HF.out.2)
theorem JB (w0:World) (p:Nat) (L:List Tk) (vL:Value) (en:Int) (i:Nat) (w:World) (h:PR w0 p L vL en i w) :
  Calls Tryz.prog 219 #[.pointer (some ⟨p,0,none⟩)] w (Rp w0 p L vL en (cW w.heap.size) w (iJ (fun t=>nd 4 t.x e0 0 [] [] t.a) (bN L en 2 i))):=by
 have HA:=ae (AP.start h 101 iz);have H:=ae (lh w0 p L vL en i 2 (by decide) _ HA.out.pr);obtain ⟨X,hX⟩:∃X,X=iJ (fun t:Tk=>nd 4 t.x e0 0 [] [] t.a) (bN L en 2 i):=⟨_,rfl⟩;rw [<- hX];have HX:=ae hX;clear h hX;go_enter Tryz.func219,Tryz.ntmps219;go_wp2_with fail;refine Calls.mono (show Calls _ _ _ _ _ from H.out) ?_;intro e u hr;cases hR:bN L en 2 i with
 | error z =>
  obtain ⟨rfl,hb⟩:=bE hr hR;have HB:=ae hb;have dQ:=HX.out;rw [hR] at dQ;have aA:=ae dQ;clear hb H dQ hR;go_wp2;exact ⟨rfl,bA aA.out HB.out⟩
 | ok r =>
  obtain ⟨t,j⟩:=r;obtain ⟨⟨v,rfl,hv⟩,hp,hbt⟩:=bw hr hR;subst hv;have fJ:=HX.out;rw [hR] at fJ;obtain ⟨k,x,n,a⟩:=t;have bz:=ae fJ;clear fJ;have aO:=ae (HA.out.call hp hbt);clear hp hbt H HA hR;obtain ⟨u2,hu2,fM,hb2,m0,m1,m2,m3,hpl⟩:=mK aO.out.pr k x n a;have bS:=ae (aO.out.on hb2);go_upto_region 2 with fail
  try rw [<- hu2]
  generalize u.heap.size=q at *;clear hu2 fM hb2 aO;obtain ⟨W,hW,hth,hbk,hpr,aU,_⟩:=bS.out.put #[.int .i64 4,.string x,.int .i64 0,.slice none 0 0,.int .i64 a] rfl;have HW:=ae hW;have aC:=ae hth;have au:=ae hbk;have HF:=ae (And.intro hpr aU);clear hW hth hbk hpr aU;go_wp2_with (refine wpList_store_mid rfl 101 (.tmp 2) (.tmp 10) rfl w.heap.size 0 #[.int .i64 4,.string x,.int .i64 0,.slice none 0 0,.int .i64 a] rfl rfl aC.out jk (by simp [Value.oneCell']) ?_;rw [HW.out]);have z0:=ak au.out 0 _ rfl;have z1:=ak au.out 1 _ rfl;have z2:=ak au.out 2 _ rfl;have z3:=ak au.out 3 _ rfl;have z4:=ak au.out 4 _ rfl;refine bodyPost_ret (v:=.agg #[.int .i64 4,.string x,.int .i64 0,.slice none 0 0,.int .i64 a]) (by simp [results,Tryz.results219,go_sem,z0,z1,z2,z3,z4]) rfl (cz bz.out (uW _ _ _ _ _ _) HF.out.1 HF.out.2)
namespace Pz
def Bw (L:List Tk) (en:Int) (s:ByteArray) (i:Nat):Rd Int:=match aY L en s i with
 | .ok j=>.ok ((tk L en i).a,j)
 | .error z=>.error z
theorem qw (k:Int) (x:ByteArray) (n a:Int) (u:World):(Instr.field 47 (.agg #[.int .i64 k,.string x,.int .i64 n,.int .i64 a]) 1).run Tryz.prog u=.ok (.string x) u:=by simp [Instr.field,asAgg,go_sem]
theorem Tx:sO.toList = [105,110,116]:=by rw [ByteArray.toList_eq]
end Pz
theorem ab2 (w0:World) (p:Nat) (L:List Tk) (vL:Value) (en:Int) (i:Nat) (s:ByteArray) (w:World) (h:PR w0 p L vL en i w) :
  Calls Tryz.prog 120 #[.pointer (some ⟨p,0,none⟩),.string s] w (Rp w0 p L vL en (fun (a:Int) v _=>v=.int .i64 a) w (Bw L en s i)):=ig w0 p L vL en i s w h
theorem RA (w0:World) (p:Nat) (L:List Tk) (vL:Value) (en:Int) (i:Nat) (w:World) (h:PR w0 p L vL en i w) :
  Calls Tryz.prog 232 #[.pointer (some ⟨p,0,none⟩)] w (Rp w0 p L vL en (cW w.heap.size) w (iJ (fun t:Int=>nd 1 e0 e0 0 [] [] t) (Bw L en dP i))):=by
 have HA:=ae (AP.start h 101 iz);have H:=ae (ab2 w0 p L vL en i dP _ HA.out.pr);obtain ⟨X,hX⟩:∃X,X=iJ (fun t:Int=>nd 1 e0 e0 0 [] [] t) (Bw L en dP i):=⟨_,rfl⟩;rw [<- hX];have HX:=ae hX;clear h hX;go_enter Tryz.func232,Tryz.ntmps232;go_wp2_with fail;refine Calls.mono (show Calls _ _ _ _ _ from H.out) ?_;intro e u hr;cases hR:Bw L en dP i with
 | error z =>
  obtain ⟨rfl,hb⟩:=bE hr hR;have HB:=ae hb;have dQ:=HX.out;rw [hR] at dQ;have aA:=ae dQ;clear hb H dQ hR;go_wp2;exact ⟨rfl,bA aA.out HB.out⟩
 | ok r =>
  obtain ⟨t,j⟩:=r;obtain ⟨⟨v,rfl,hv⟩,hp,hbt⟩:=bw hr hR;subst hv;have fJ:=HX.out;rw [hR] at fJ;have bz:=ae fJ;clear fJ;have bS:=ae (HA.out.call hp hbt);clear hp hbt H HA hR;obtain ⟨W,hW,hth,hbk,hpr,aU,_⟩:=bS.out.put #[.int .i64 1,.string ⟨#[]⟩,.int .i64 0,.slice none 0 0,.int .i64 t] rfl;have HW:=ae hW;have aC:=ae hth;have au:=ae hbk;have HF:=ae (And.intro hpr aU);clear hW hth hbk hpr aU;go_wp2_with (refine wpList_store_mid rfl 101 (.tmp 2) (.tmp 5) rfl w.heap.size 0 #[.int .i64 1,.string ⟨#[]⟩,.int .i64 0,.slice none 0 0,.int .i64 t] rfl rfl aC.out jk (by simp [Value.oneCell']) ?_;rw [HW.out]);have z0:=ak au.out 0 _ rfl;have z1:=ak au.out 1 _ rfl;have z2:=ak au.out 2 _ rfl;have z3:=ak au.out 3 _ rfl;have z4:=ak au.out 4 _ rfl;refine bodyPost_ret (v:=.agg #[.int .i64 1,.string ⟨#[]⟩,.int .i64 0,.slice none 0 0,.int .i64 t]) (by simp [results,Tryz.results232,go_sem,z0,z1,z2,z3,z4]) rfl (cz bz.out (uW _ _ _ _ _ _) HF.out.1 HF.out.2)
theorem aaW (w0:World) (p:Nat) (L:List Tk) (vL:Value) (en:Int) (i:Nat) (w:World) (h:PR w0 p L vL en i w) :
  Calls Tryz.prog 177 #[.pointer (some ⟨p,0,none⟩)] w (Rp w0 p L vL en (fE w.heap.size) w (iJ (fun t:Tk=>nd 2 t.x e0 0 [] [] 0) (bN L en 3 i))):=by
 have HA:=ae (AP.start h 79 nR);have H:=ae (lh w0 p L vL en i 3 (by decide) _ HA.out.pr);obtain ⟨X,hX⟩:∃X,X=iJ (fun t:Tk=>nd 2 t.x e0 0 [] [] 0) (bN L en 3 i):=⟨_,rfl⟩;rw [<- hX];have HX:=ae hX;clear h hX;go_enter Tryz.func177,Tryz.ntmps177;go_wp2_with fail;refine Calls.mono (show Calls _ _ _ _ _ from H.out) ?_;intro e u hr;cases hR:bN L en 3 i with
 | error z =>
  obtain ⟨rfl,hb⟩:=bE hr hR;have HB:=ae hb;have dQ:=HX.out;rw [hR] at dQ;have aA:=ae dQ;clear hb H dQ hR;go_wp2;exact ⟨rfl,bA aA.out HB.out⟩
 | ok r =>
  obtain ⟨t,j⟩:=r;obtain ⟨⟨v,rfl,hv⟩,hp,hbt⟩:=bw hr hR;subst hv;have fJ:=HX.out;rw [hR] at fJ;obtain ⟨k,x,n,a⟩:=t;have bz:=ae fJ;clear fJ;have bS:=ae (HA.out.call hp hbt);clear hp hbt H HA hR;have hfl:=fun (u:World)=>qw k x n a u;simp only [dO];obtain ⟨W,hW,hth,hbk,hpr,aU,_⟩:=bS.out.put #[.int .i64 2,.string x,.int .i64 0,.slice none 0 0] rfl;have HW:=ae hW;have aC:=ae hth;have au:=ae hbk;have HF:=ae (And.intro hpr aU);clear hW hth hbk hpr aU;go_wp2_with (refine wpList_store_mid rfl 79 (.tmp 2) (.tmp 6) rfl w.heap.size 0 #[.int .i64 2,.string x,.int .i64 0,.slice none 0 0] rfl rfl aC.out jH (by simp [Value.oneCell']) ?_;rw [HW.out]);have z0:=ak au.out 0 _ rfl;have z1:=ak au.out 1 _ rfl;have z2:=ak au.out 2 _ rfl;have z3:=ak au.out 3 _ rfl;refine bodyPost_ret (v:=.agg #[.int .i64 2,.string x,.int .i64 0,.slice none 0 0]) (by simp [results,Tryz.results177,go_sem,z0,z1,z2,z3]) rfl (cz bz.out (LD _ _ _ _) HF.out.1 HF.out.2)
theorem aaV (w0:World) (p:Nat) (L:List Tk) (vL:Value) (en:Int) (i:Nat) (w:World) (h:PR w0 p L vL en i w) :
  Calls Tryz.prog 176 #[.pointer (some ⟨p,0,none⟩)] w (Rp w0 p L vL en (fE w.heap.size) w (iJ (fun t:Tk=>rD t.x) (bN L en 1 i))):=by
 have HA:=ae (AP.start h 79 nR);have H:=ae (lh w0 p L vL en i 1 (by decide) _ HA.out.pr);obtain ⟨X,hX⟩:∃X,X=iJ (fun t:Tk=>rD t.x) (bN L en 1 i):=⟨_,rfl⟩;rw [<- hX];have HX:=ae hX;clear h hX;go_enter Tryz.func176,Tryz.ntmps176;go_wp2_with fail;refine Calls.mono (show Calls _ _ _ _ _ from H.out) ?_;intro e u hr;cases hR:bN L en 1 i with
 | error z =>
  obtain ⟨rfl,hb⟩:=bE hr hR;have HB:=ae hb;have dQ:=HX.out;rw [hR] at dQ;have aA:=ae dQ;clear hb H dQ hR;go_wp2;exact ⟨rfl,bA aA.out HB.out⟩
 | ok r =>
  obtain ⟨t,j⟩:=r;obtain ⟨⟨v,rfl,hv⟩,hp,hbt⟩:=bw hr hR;subst hv;have fJ:=HX.out;rw [hR] at fJ;obtain ⟨k,x,n,a⟩:=t;have bz:=ae fJ;clear fJ;have bS:=ae (HA.out.call hp hbt);clear hp hbt H HA hR;have hfl:=fun (u:World)=>qw k x n a u;simp only [dO];by_cases hx:x=sO
  ·have q1:=uJ hx;rw [Tx] at q1;have e1:rD x=nd 1 e0 e0 0 [] [] 0:=if_pos hx;have bz:Hid (X=.ok (nd 1 e0 e0 0 [] [] 0,j)):=ae (by rw [bz.out];show Except.ok (rD x,j)=_;rw [e1]);clear hx e1;obtain ⟨W,hW,hth,hbk,hpr,aU,_⟩:=bS.out.put #[.int .i64 1,.string ⟨#[]⟩,.int .i64 0,.slice none 0 0] rfl;have HW:=ae hW;have aC:=ae hth;have au:=ae hbk;have HF:=ae (And.intro hpr aU);clear hW hth hbk hpr aU;go_wp2_with (refine wpList_store_mid rfl 79 (.tmp 2) (.tmp 9) rfl w.heap.size 0 #[.int .i64 1,.string ⟨#[]⟩,.int .i64 0,.slice none 0 0] rfl rfl aC.out jH (by simp [Value.oneCell']) ?_;rw [HW.out]);have z0:=ak au.out 0 _ rfl;have z1:=ak au.out 1 _ rfl;have z2:=ak au.out 2 _ rfl;have z3:=ak au.out 3 _ rfl;refine bodyPost_ret (v:=.agg #[.int .i64 1,.string ⟨#[]⟩,.int .i64 0,.slice none 0 0]) (by simp [results,Tryz.results176,go_sem,z0,z1,z2,z3]) rfl (cz bz.out (LD _ _ _ _) HF.out.1 HF.out.2)
  ·have q1:=tN hx;rw [Tx] at q1;have e1:rD x=nd 4 x e0 0 [] [] 0:=if_neg hx;have bz:Hid (X=.ok (nd 4 x e0 0 [] [] 0,j)):=ae (by rw [bz.out];show Except.ok (rD x,j)=_;rw [e1]);clear hx e1;obtain ⟨W,hW,hth,hbk,hpr,aU,_⟩:=bS.out.put #[.int .i64 4,.string x,.int .i64 0,.slice none 0 0] rfl;have HW:=ae hW;have aC:=ae hth;have au:=ae hbk;have HF:=ae (And.intro hpr aU);clear hW hth hbk hpr aU;go_wp2_with (refine wpList_store_mid rfl 79 (.tmp 2) (.tmp 11) rfl w.heap.size 0 #[.int .i64 4,.string x,.int .i64 0,.slice none 0 0] rfl rfl aC.out jH (by simp [Value.oneCell']) ?_;rw [HW.out]);have z0:=ak au.out 0 _ rfl;have z1:=ak au.out 1 _ rfl;have z2:=ak au.out 2 _ rfl;have z3:=ak au.out 3 _ rfl;refine bodyPost_ret (v:=.agg #[.int .i64 4,.string x,.int .i64 0,.slice none 0 0]) (by simp [results,Tryz.results176,go_sem,z0,z1,z2,z3]) rfl (cz bz.out (LD _ _ _ _) HF.out.1 HF.out.2)
abbrev Pz.lY:Array Value:=#[.int .i64 1,.string e0,.func (.func 176) #[] #[],.int .i64 3,.string e0,.func (.func 177) #[] #[],.int .i64 6,.string sL,.func (.func 178) #[] #[]]
theorem BR (w:World):Calls Tryz.prog 152 #[] w fun e w'=>e=.returned (.slice (some ⟨w.heap.size,0,none⟩) 3 3)/\w'=w.alloc (.cells lY 187):=by
 go_enter Tryz.func152,Tryz.ntmps152;go_wp2;go_ret;exact ⟨rfl,rfl⟩
abbrev Pz.AX:Array Value:=#[.int .i64 2,.string e0,.func (.func 207) #[] #[],.int .i64 0,.string e0,.func (.func 208) #[] #[]]
theorem XZ (w:World):Calls Tryz.prog 198 #[] w fun e w'=>e=.returned (.slice (some ⟨w.heap.size,0,none⟩) 2 2)/\w'=w.alloc (.cells AX 207):=by
 go_enter Tryz.func198,Tryz.ntmps198;go_wp2;go_ret;exact ⟨rfl,rfl⟩
abbrev Pz.oM:Array Value:=#[.int .i64 1,.string e0,.func (.func 231) #[] #[],.int .i64 6,.string dP,.func (.func 232) #[] #[],.int .i64 4,.string e0,.func (.func 233) #[] #[],.int .i64 2,.string e0,.func (.func 219) #[] #[],.int .i64 6,.string sL,.func (.func 234) #[] #[]]
theorem O7 (w:World):Calls Tryz.prog 221 #[] w fun e w'=>e=.returned (.slice (some ⟨w.heap.size,0,none⟩) 5 5)/\w'=w.alloc (.cells oM 207):=by
 go_enter Tryz.func221,Tryz.ntmps221;go_wp2;go_ret;exact ⟨rfl,rfl⟩
abbrev Pz.AV:Array Value:=#[.int .i64 5,.string eY,.func (.func 154) #[] #[],.int .i64 5,.string fA,.func (.func 155) #[] #[],.int .i64 5,.string gI,.func (.func 156) #[] #[],.int .i64 5,.string gX,.func (.func 157) #[] #[],.int .i64 0,.string e0,.func (.func 158) #[] #[]]
theorem XV (w:World):Calls Tryz.prog 124 #[] w fun e w'=>e=.returned (.slice (some ⟨w.heap.size,0,none⟩) 5 5)/\w'=w.alloc (.cells AV 163):=by
 go_enter Tryz.func124,Tryz.ntmps124;go_wp2;go_ret;exact ⟨rfl,rfl⟩
abbrev Pz.AU:Array Value:=#[.int .i64 5,.string gW,.func (.func 235) #[] #[],.int .i64 2,.string e0,.func (.func 236) #[] #[],.int .i64 0,.string e0,.func (.func 237) #[] #[]]
theorem XS (w:World):Calls Tryz.prog 222 #[] w fun e w'=>e=.returned (.slice (some ⟨w.heap.size,0,none⟩) 3 3)/\w'=w.alloc (.cells AU 163):=by
 go_enter Tryz.func222,Tryz.ntmps222;go_wp2;go_ret;exact ⟨rfl,rfl⟩
abbrev Pz.nC:Array Value:=#[.int .i64 1,.string e0,.func (.func 245) #[] #[],.int .i64 4,.string e0,.func (.func 246) #[] #[],.int .i64 2,.string e0,.func (.func 241) #[] #[],.int .i64 6,.string sL,.func (.func 247) #[] #[]]
theorem IG (w:World):Calls Tryz.prog 243 #[] w fun e w'=>e=.returned (.slice (some ⟨w.heap.size,0,none⟩) 4 4)/\w'=w.alloc (.cells nC 163):=by
 go_enter Tryz.func243,Tryz.ntmps243;go_wp2;go_ret;exact ⟨rfl,rfl⟩
end Go.Proofs.YtkdbgopgjbfhbaaGreatDoor
