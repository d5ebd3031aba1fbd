/- Texts that the claim needs. -/
import Derived.Test.YtkdbgopgjbfhbaaGreatDoorQPS7
namespace Go.Proofs.YtkdbgopgjbfhbaaGreatDoor
open Go.RowKit Lx Pz bb
set_option linter.unusedVariables false
set_option maxRecDepth 100000
set_option maxHeartbeats 4000000
namespace Pz
def aY (B:Nat) (t v:Value) (w:World):Prop:=∃d,jH B d w t v
def cG (B:Nat) (t v:Value) (w:World):Prop:=∃d,ll B d w t v
def fC (B:Nat) (t v:Value) (w:World):Prop:=∃d,qg B d w t v
theorem cz:(Tryz.prog.info? 27).map (·.size)=some 7:=by kernel_rfl
theorem jk:(Tryz.prog.info? 101).map (·.size)=some 5:=by kernel_rfl
theorem jK:(Tryz.prog.info? 79).map (·.size)=some 4:=by kernel_rfl
abbrev bK:Array Value:=#[.int .i64 0,.string ⟨#[]⟩,.string ⟨#[]⟩,.int .i64 0,.slice none 0 0,.slice none 0 0,.int .i64 0]
abbrev iA:Array Value:=#[.int .i64 0,.string ⟨#[]⟩,.int .i64 0,.slice none 0 0,.int .i64 0]
abbrev nz:Array Value:=#[.int .i64 0,.string ⟨#[]⟩,.int .i64 0,.slice none 0 0]
theorem Mr (B:Nat) (k:Int) (x y:ByteArray) (n a:Int) (w:World):aY B (nd k x y n [] [] a) (.agg #[.int .i64 k,.string x,.string y,.int .i64 n,.slice none 0 0,.slice none 0 0,.int .i64 a]) w:=⟨0,k,x,y,n,[],[],a,_,_,rfl,rfl,xy _ _,xy _ _⟩
theorem uL (B:Nat) (k:Int) (x:ByteArray) (n a:Int) (w:World):cG B (nd k x e0 n [] [] a) (.agg #[.int .i64 k,.string x,.int .i64 n,.slice none 0 0,.int .i64 a]) w:=⟨0,k,x,n,[],a,_,rfl,rfl,xy _ _⟩
theorem Lf (B:Nat) (k:Int) (x:ByteArray) (w:World):fC B (nd k x e0 0 [] [] 0) (.agg #[.int .i64 k,.string x,.int .i64 0,.slice none 0 0]) w:=⟨0,k,x,0,[],_,rfl,rfl,xy _ _⟩
def iN {α β:Type} (f:α->β):Rd α->Rd β
 | .ok (a,j)=>.ok (f a,j)
 | .error z=>.error z
theorem bn {α:Type} {w0 w w':World} {p:Nat} {L:List Tk} {vL:Value} {en:Int} {V:α->Value->World->Prop} {X:Rd α} {z:Int} (h:X=.error z) (hb:Below w0.heap.size w0 w'):Rp w0 p L vL en V w X (.panicked (Be z)) w':=by subst h;exact ⟨rfl,hb⟩
theorem bY {α:Type} {w0 w w':World} {p:Nat} {L:List Tk} {vL:Value} {en:Int} {V:α->Value->World->Prop} {X:Rd α} {a:α} {j:Nat} {v:Value} (h:X=.ok (a,j)) (hv:V a v w') (hp:PR w0 p L vL en j w') (hb:But p w w'):Rp w0 p L vL en V w X (.returned v) w':=by subst h;exact ⟨⟨v,rfl,hv⟩,hp,hb⟩
theorem bz {α:Type} {w0 w w':World} {p:Nat} {L:List Tk} {vL:Value} {en:Int} {V:α->Value->World->Prop} {X:Rd α} {z:Int} {e:Ending} (hr:Rp w0 p L vL en V w X e w') (h:X=.error z):e=.panicked (Be z)/\Below w0.heap.size w0 w':=by subst h;exact hr
theorem bf {α:Type} {w0 w w':World} {p:Nat} {L:List Tk} {vL:Value} {en:Int} {V:α->Value->World->Prop} {X:Rd α} {a:α} {j:Nat} {e:Ending} (hr:Rp w0 p L vL en V w X e w') (h:X=.ok (a,j)):(∃v,e=.returned v/\V a v w')/\PR w0 p L vL en j w'/\But p w w':=by subst h;exact hr
end Pz
theorem Us (w0:World) (p:Nat) (L:List Tk) (vL:Value) (en:Int) (i:Nat) (w:World) (h:PR w0 p L vL en i w) :
  Calls Tryz.prog 245 #[.pointer (some ⟨p,0,none⟩)] w (Rp w0 p L vL en (aY w.heap.size) w (iN (fun t=>nd 1 t.x e0 0 [] [] t.a) (bM L en 1 i))):=by
 have HA:=ae (AP.start h 27 bK);have H:=ae (lf w0 p L vL en i 1 (by decide) _ HA.out.pr);obtain ⟨X,hX⟩:∃X,X=iN (fun t:Tk=>nd 1 t.x e0 0 [] [] t.a) (bM L en 1 i):=⟨_,rfl⟩;rw [<- hX];have HX:=ae hX;clear h hX;go_enter Tryz.func245,Tryz.ntmps245;go_wp2_with fail;refine Calls.mono (show Calls _ _ _ _ _ from H.out) ?_;intro e u hr;cases hR:bM L en 1 i with
 | error z =>
  obtain ⟨rfl,hb⟩:=bz hr hR;have HB:=ae hb;have dL:=HX.out;rw [hR] at dL;have ay:=ae dL;clear hb H dL hR;go_wp2;exact ⟨rfl,bn ay.out HB.out⟩
 | ok r =>
  obtain ⟨t,j⟩:=r;obtain ⟨⟨v,rfl,hv⟩,hp,hbt⟩:=bf hr hR;subst hv;have fK:=HX.out;rw [hR] at fK;obtain ⟨k,x,n,a⟩:=t;have bh:=ae fK;clear fK;have aB:=ae (HA.out.call hp hbt);clear hp hbt H HA hR;obtain ⟨u2,hu2,fN,hb2,m0,m1,m2,m3,hpl⟩:=mo aB.out.pr k x n a;have bP:=ae (aB.out.on hb2);go_upto_region 2 with fail
  try rw [<- hu2]
  generalize u.heap.size=q at *;clear hu2 fN hb2 aB;obtain ⟨W,hW,hth,hbk,hpr,aO,_⟩:=bP.out.put #[.int .i64 1,.string x,.string ⟨#[]⟩,.int .i64 0,.slice none 0 0,.slice none 0 0,.int .i64 a] rfl;have HW:=ae hW;have ax:=ae hth;have aj:=ae hbk;have HF:=ae (And.intro hpr aO);clear hW hth hbk hpr aO;go_wp2_with (refine wpList_store_mid rfl 27 (.tmp 2) (.tmp 10) rfl w.heap.size 0 #[.int .i64 1,.string x,.string ⟨#[]⟩,.int .i64 0,.slice none 0 0,.slice none 0 0,.int .i64 a] rfl rfl ax.out cz (by simp [Value.oneCell']) ?_;rw [HW.out]);have z0:=af aj.out 0 _ rfl;have z1:=af aj.out 1 _ rfl;have z2:=af aj.out 2 _ rfl;have z3:=af aj.out 3 _ rfl;have z4:=af aj.out 4 _ rfl;have z5:=af aj.out 5 _ rfl;have z6:=af aj.out 6 _ rfl;refine bodyPost_ret (v:=.agg #[.int .i64 1,.string x,.string ⟨#[]⟩,.int .i64 0,.slice none 0 0,.slice none 0 0,.int .i64 a]) (by simp [results,Tryz.results245,go_sem,z0,z1,z2,z3,z4,z5,z6]) rfl (bY bh.out (Mr _ _ _ _ _ _ _) HF.out.1 HF.out.2)
theorem Ut (w0:World) (p:Nat) (L:List Tk) (vL:Value) (en:Int) (i:Nat) (w:World) (h:PR w0 p L vL en i w) :
  Calls Tryz.prog 246 #[.pointer (some ⟨p,0,none⟩)] w (Rp w0 p L vL en (aY w.heap.size) w (iN (fun t=>nd 2 e0 e0 t.n [] [] t.a) (bM L en 4 i))):=by
 have HA:=ae (AP.start h 27 bK);have H:=ae (lf w0 p L vL en i 4 (by decide) _ HA.out.pr);obtain ⟨X,hX⟩:∃X,X=iN (fun t:Tk=>nd 2 e0 e0 t.n [] [] t.a) (bM L en 4 i):=⟨_,rfl⟩;rw [<- hX];have HX:=ae hX;clear h hX;go_enter Tryz.func246,Tryz.ntmps246;go_wp2_with fail;refine Calls.mono (show Calls _ _ _ _ _ from H.out) ?_;intro e u hr;cases hR:bM L en 4 i with
 | error z =>
  obtain ⟨rfl,hb⟩:=bz hr hR;have HB:=ae hb;have dL:=HX.out;rw [hR] at dL;have ay:=ae dL;clear hb H dL hR;go_wp2;exact ⟨rfl,bn ay.out HB.out⟩
 | ok r =>
  obtain ⟨t,j⟩:=r;obtain ⟨⟨v,rfl,hv⟩,hp,hbt⟩:=bf hr hR;subst hv;have fK:=HX.out;rw [hR] at fK;obtain ⟨k,x,n,a⟩:=t;have bh:=ae fK;clear fK;have aB:=ae (HA.out.call hp hbt);clear hp hbt H HA hR;obtain ⟨u2,hu2,fN,hb2,m0,m1,m2,m3,hpl⟩:=mo aB.out.pr k x n a;have bP:=ae (aB.out.on hb2);go_upto_region 2 with fail
  try rw [<- hu2]
  generalize u.heap.size=q at *;clear hu2 fN hb2 aB;obtain ⟨W,hW,hth,hbk,hpr,aO,_⟩:=bP.out.put #[.int .i64 2,.string ⟨#[]⟩,.string ⟨#[]⟩,.int .i64 n,.slice none 0 0,.slice none 0 0,.int .i64 a] rfl;have HW:=ae hW;have ax:=ae hth;have aj:=ae hbk;have HF:=ae (And.intro hpr aO);clear hW hth hbk hpr aO;go_wp2_with (refine wpList_store_mid rfl 27 (.tmp 2) (.tmp 10) rfl w.heap.size 0 #[.int .i64 2,.string ⟨#[]⟩,.string ⟨#[]⟩,.int .i64 n,.slice none 0 0,.slice none 0 0,.int .i64 a] rfl rfl ax.out cz (by simp [Value.oneCell']) ?_;rw [HW.out]);have z0:=af aj.out 0 _ rfl;have z1:=af aj.out 1 _ rfl;have z2:=af aj.out 2 _ rfl;have z3:=af aj.out 3 _ rfl;have z4:=af aj.out 4 _ rfl;have z5:=af aj.out 5 _ rfl;have z6:=af aj.out 6 _ rfl;refine bodyPost_ret (v:=.agg #[.int .i64 2,.string ⟨#[]⟩,.string ⟨#[]⟩,.int .i64 n,.slice none 0 0,.slice none 0 0,.int .i64 a]) (by simp [results,Tryz.results246,go_sem,z0,z1,z2,z3,z4,z5,z6]) rfl (bY bh.out (Mr _ _ _ _ _ _ _) HF.out.1 HF.out.2)
theorem JF (w0:World) (p:Nat) (L:List Tk) (vL:Value) (en:Int) (i:Nat) (w:World) (h:PR w0 p L vL en i w) :
  Calls Tryz.prog 241 #[.pointer (some ⟨p,0,none⟩)] w (Rp w0 p L vL en (aY w.heap.size) w (iN (fun t=>nd 8 t.x e0 0 [] [] t.a) (bM L en 2 i))):=by
 have HA:=ae (AP.start h 27 bK);have H:=ae (lf w0 p L vL en i 2 (by decide) _ HA.out.pr);obtain ⟨X,hX⟩:∃X,X=iN (fun t:Tk=>nd 8 t.x e0 0 [] [] t.a) (bM L en 2 i):=⟨_,rfl⟩;rw [<- hX];have HX:=ae hX;clear h hX;go_enter Tryz.func241,Tryz.ntmps241;go_wp2_with fail;refine Calls.mono (show Calls _ _ _ _ _ from H.out) ?_;intro e u hr;cases hR:bM L en 2 i with
 | error z =>
  obtain ⟨rfl,hb⟩:=bz hr hR;have HB:=ae hb;have dL:=HX.out;rw [hR] at dL;have ay:=ae dL;clear hb H dL hR;go_wp2;exact ⟨rfl,bn ay.out HB.out⟩
 | ok r =>
  obtain ⟨t,j⟩:=r;obtain ⟨⟨v,rfl,hv⟩,hp,hbt⟩:=bf hr hR;subst hv;have fK:=HX.out;rw [hR] at fK;obtain ⟨k,x,n,a⟩:=t;have bh:=ae fK;clear fK;have aB:=ae (HA.out.call hp hbt);clear hp hbt H HA hR;obtain ⟨u2,hu2,fN,hb2,m0,m1,m2,m3,hpl⟩:=mo aB.out.pr k x n a;have bP:=ae (aB.out.on hb2);go_upto_region 2 with fail
  try rw [<- hu2]
  generalize u.heap.size=q at *;clear hu2 fN hb2 aB;obtain ⟨W,hW,hth,hbk,hpr,aO,_⟩:=bP.out.put #[.int .i64 8,.string x,.string ⟨#[]⟩,.int .i64 0,.slice none 0 0,.slice none 0 0,.int .i64 a] rfl;have HW:=ae hW;have ax:=ae hth;have aj:=ae hbk;have HF:=ae (And.intro hpr aO);clear hW hth hbk hpr aO;go_wp2_with (refine wpList_store_mid rfl 27 (.tmp 2) (.tmp 10) rfl w.heap.size 0 #[.int .i64 8,.string x,.string ⟨#[]⟩,.int .i64 0,.slice none 0 0,.slice none 0 0,.int .i64 a] rfl rfl ax.out cz (by simp [Value.oneCell']) ?_;rw [HW.out]);have z0:=af aj.out 0 _ rfl;have z1:=af aj.out 1 _ rfl;have z2:=af aj.out 2 _ rfl;have z3:=af aj.out 3 _ rfl;have z4:=af aj.out 4 _ rfl;have z5:=af aj.out 5 _ rfl;have z6:=af aj.out 6 _ rfl;refine bodyPost_ret (v:=.agg #[.int .i64 8,.string x,.string ⟨#[]⟩,.int .i64 0,.slice none 0 0,.slice none 0 0,.int .i64 a]) (by simp [results,Tryz.results241,go_sem,z0,z1,z2,z3,z4,z5,z6]) rfl (bY bh.out (Mr _ _ _ _ _ _ _) HF.out.1 HF.out.2)
theorem Sw (w0:World) (p:Nat) (L:List Tk) (vL:Value) (en:Int) (i:Nat) (w:World) (h:PR w0 p L vL en i w) :
  Calls Tryz.prog 231 #[.pointer (some ⟨p,0,none⟩)] w (Rp w0 p L vL en (cG w.heap.size) w (iN (fun t=>nd 2 t.x e0 0 [] [] t.a) (bM L en 1 i))):=by
 have HA:=ae (AP.start h 101 iA);have H:=ae (lf w0 p L vL en i 1 (by decide) _ HA.out.pr);obtain ⟨X,hX⟩:∃X,X=iN (fun t:Tk=>nd 2 t.x e0 0 [] [] t.a) (bM L en 1 i):=⟨_,rfl⟩;rw [<- hX];have HX:=ae hX;clear h hX;go_enter Tryz.func231,Tryz.ntmps231;go_wp2_with fail;refine Calls.mono (show Calls _ _ _ _ _ from H.out) ?_;intro e u hr;cases hR:bM L en 1 i with
 | error z =>
  obtain ⟨rfl,hb⟩:=bz hr hR;have HB:=ae hb;have dL:=HX.out;rw [hR] at dL;have ay:=ae dL;clear hb H dL hR;go_wp2;exact ⟨rfl,bn ay.out HB.out⟩
 | ok r =>
  obtain ⟨t,j⟩:=r;obtain ⟨⟨v,rfl,hv⟩,hp,hbt⟩:=bf hr hR;subst hv;have fK:=HX.out;rw [hR] at fK;obtain ⟨k,x,n,a⟩:=t;have bh:=ae fK;clear fK;have aB:=ae (HA.out.call hp hbt);clear hp hbt H HA hR;obtain ⟨u2,hu2,fN,hb2,m0,m1,m2,m3,hpl⟩:=mo aB.out.pr k x n a;have bP:=ae (aB.out.on hb2);go_upto_region 2 with fail
  try rw [<- hu2]
  generalize u.heap.size=q at *;clear hu2 fN hb2 aB;obtain ⟨W,hW,hth,hbk,hpr,aO,_⟩:=bP.out.put #[.int .i64 2,.string x,.int .i64 0,.slice none 0 0,.int .i64 a] rfl;have HW:=ae hW;have ax:=ae hth;have aj:=ae hbk;have HF:=ae (And.intro hpr aO);clear hW hth hbk hpr aO;go_wp2_with (refine wpList_store_mid rfl 101 (.tmp 2) (.tmp 10) rfl w.heap.size 0 #[.int .i64 2,.string x,.int .i64 0,.slice none 0 0,.int .i64 a] rfl rfl ax.out jk (by simp [Value.oneCell']) ?_;rw [HW.out]);have z0:=af aj.out 0 _ rfl;have z1:=af aj.out 1 _ rfl;have z2:=af aj.out 2 _ rfl;have z3:=af aj.out 3 _ rfl;have z4:=af aj.out 4 _ rfl;refine bodyPost_ret (v:=.agg #[.int .i64 2,.string x,.int .i64 0,.slice none 0 0,.int .i64 a]) (by simp [results,Tryz.results231,go_sem,z0,z1,z2,z3,z4]) rfl (bY bh.out (uL _ _ _ _ _ _) HF.out.1 HF.out.2)
theorem Sz (w0:World) (p:Nat) (L:List Tk) (vL:Value) (en:Int) (i:Nat) (w:World) (h:PR w0 p L vL en i w) :
  Calls Tryz.prog 233 #[.pointer (some ⟨p,0,none⟩)] w (Rp w0 p L vL en (cG w.heap.size) w (iN (fun t=>nd 3 e0 e0 t.n [] [] t.a) (bM L en 4 i))):=by
 have HA:=ae (AP.start h 101 iA);have H:=ae (lf w0 p L vL en i 4 (by decide) _ HA.out.pr);obtain ⟨X,hX⟩:∃X,X=iN (fun t:Tk=>nd 3 e0 e0 t.n [] [] t.a) (bM L en 4 i):=⟨_,rfl⟩;rw [<- hX];have HX:=ae hX;clear h hX;go_enter Tryz.func233,Tryz.ntmps233;go_wp2_with fail;refine Calls.mono (show Calls _ _ _ _ _ from H.out) ?_;intro e u hr;cases hR:bM L en 4 i with
 | error z =>
  obtain ⟨rfl,hb⟩:=bz hr hR;have HB:=ae hb;have dL:=HX.out;rw [hR] at dL;have ay:=ae dL;clear hb H dL hR;go_wp2;exact ⟨rfl,bn ay.out HB.out⟩
 | ok r =>
  obtain ⟨t,j⟩:=r;obtain ⟨⟨v,rfl,hv⟩,hp,hbt⟩:=bf hr hR;subst hv;have fK:=HX.out;rw [hR] at fK;obtain ⟨k,x,n,a⟩:=t;have bh:=ae fK;clear fK;have aB:=ae (HA.out.call hp hbt);clear hp hbt H HA hR;obtain ⟨u2,hu2,fN,hb2,m0,m1,m2,m3,hpl⟩:=mo aB.out.pr k x n a;have bP:=ae (aB.out.on hb2);go_upto_region 2 with fail
  try rw [<- hu2]
  generalize u.heap.size=q at *;clear hu2 fN hb2 aB;obtain ⟨W,hW,hth,hbk,hpr,aO,_⟩:=bP.out.put #[.int .i64 3,.string ⟨#[]⟩,.int .i64 n,.slice none 0 0,.int .i64 a] rfl;have HW:=ae hW;have ax:=ae hth;have aj:=ae hbk;have HF:=ae (And.intro hpr aO);clear hW hth hbk hpr aO;go_wp2_with (refine wpList_store_mid rfl 101 (.tmp 2) (.tmp 10) rfl w.heap.size 0 #[.int .i64 3,.string ⟨#[]⟩,.int .i64 n,.slice none 0 0,.int .i64 a] rfl rfl ax.out jk (by simp [Value.oneCell']) ?_;rw [HW.out]);have z0:=af aj.out 0 _ rfl;have z1:=af aj.out 1 _ rfl;have z2:=af aj.out 2 _ rfl;have z3:=af aj.out 3 _ rfl;have z4:=af aj.out 4 _ rfl;refine bodyPost_ret (v:=.agg #[.int .i64 3,.string ⟨#[]⟩,.int .i64 n,.slice none 0 0,.int .i64 a]) (by simp [results,Tryz.results233,go_sem,z0,z1,z2,z3,z4]) rfl (bY bh.out (uL _ _ _ _ _ _) HF.out.1 HF.out.2)
theorem JL (w0:World) (p:Nat) (L:List Tk) (vL:Value) (en:Int) (i:Nat) (w:World) (h:PR w0 p L vL en i w) :
  Calls Tryz.prog 219 #[.pointer (some ⟨p,0,none⟩)] w (Rp w0 p L vL en (cG w.heap.size) w (iN (fun t=>nd 4 t.x e0 0 [] [] t.a) (bM L en 2 i))):=by
 have HA:=ae (AP.start h 101 iA);have H:=ae (lf w0 p L vL en i 2 (by decide) _ HA.out.pr);obtain ⟨X,hX⟩:∃X,X=iN (fun t:Tk=>nd 4 t.x e0 0 [] [] t.a) (bM L en 2 i):=⟨_,rfl⟩;rw [<- hX];have HX:=ae hX;clear h hX;go_enter Tryz.func219,Tryz.ntmps219;go_wp2_with fail;refine Calls.mono (show Calls _ _ _ _ _ from H.out) ?_;intro e u hr;cases hR:bM L en 2 i with
 | error z =>
  obtain ⟨rfl,hb⟩:=bz hr hR;have HB:=ae hb;have dL:=HX.out;rw [hR] at dL;have ay:=ae dL;clear hb H dL hR;go_wp2;exact ⟨rfl,bn ay.out HB.out⟩
 | ok r =>
  obtain ⟨t,j⟩:=r;obtain ⟨⟨v,rfl,hv⟩,hp,hbt⟩:=bf hr hR;subst hv;have fK:=HX.out;rw [hR] at fK;obtain ⟨k,x,n,a⟩:=t;have bh:=ae fK;clear fK;have aB:=ae (HA.out.call hp hbt);clear hp hbt H HA hR;obtain ⟨u2,hu2,fN,hb2,m0,m1,m2,m3,hpl⟩:=mo aB.out.pr k x n a;have bP:=ae (aB.out.on hb2);go_upto_region 2 with fail
  try rw [<- hu2]
  generalize u.heap.size=q at *;clear hu2 fN hb2 aB;obtain ⟨W,hW,hth,hbk,hpr,aO,_⟩:=bP.out.put #[.int .i64 4,.string x,.int .i64 0,.slice none 0 0,.int .i64 a] rfl;have HW:=ae hW;have ax:=ae hth;have aj:=ae hbk;have HF:=ae (And.intro hpr aO);clear hW hth hbk hpr aO;go_wp2_with (refine wpList_store_mid rfl 101 (.tmp 2) (.tmp 10) rfl w.heap.size 0 #[.int .i64 4,.string x,.int .i64 0,.slice none 0 0,.int .i64 a] rfl rfl ax.out jk (by simp [Value.oneCell']) ?_;rw [HW.out]);have z0:=af aj.out 0 _ rfl;have z1:=af aj.out 1 _ rfl;have z2:=af aj.out 2 _ rfl;have z3:=af aj.out 3 _ rfl;have z4:=af aj.out 4 _ rfl;refine bodyPost_ret (v:=.agg #[.int .i64 4,.string x,.int .i64 0,.slice none 0 0,.int .i64 a]) (by simp [results,Tryz.results219,go_sem,z0,z1,z2,z3,z4]) rfl (bY bh.out (uL _ _ _ _ _ _) HF.out.1 HF.out.2)
namespace Pz
def Bu (L:List Tk) (en:Int) (s:ByteArray) (i:Nat):Rd Int:=match aX L en s i with
 | .ok j=>.ok ((tk L en i).a,j)
 | .error z=>.error z
theorem pR (k:Int) (x:ByteArray) (n a:Int) (u:World):(Instr.field 47 (.agg #[.int .i64 k,.string x,.int .i64 n,.int .i64 a]) 1).run Tryz.prog u=.ok (.string x) u:=by simp [Instr.field,asAgg,go_sem]
theorem TE:rX.toList = [105,110,116]:=by rw [ByteArray.toList_eq]
end Pz
theorem acp (w0:World) (p:Nat) (L:List Tk) (vL:Value) (en:Int) (i:Nat) (s:ByteArray) (w:World) (h:PR w0 p L vL en i w) :
  Calls Tryz.prog 120 #[.pointer (some ⟨p,0,none⟩),.string s] w (Rp w0 p L vL en (fun (a:Int) v _=>v=.int .i64 a) w (Bu L en s i)):=gZ w0 p L vL en i s w h
theorem Sy (w0:World) (p:Nat) (L:List Tk) (vL:Value) (en:Int) (i:Nat) (w:World) (h:PR w0 p L vL en i w) :
  Calls Tryz.prog 232 #[.pointer (some ⟨p,0,none⟩)] w (Rp w0 p L vL en (cG w.heap.size) w (iN (fun t:Int=>nd 1 e0 e0 0 [] [] t) (Bu L en dK i))):=by
 have HA:=ae (AP.start h 101 iA);have H:=ae (acp w0 p L vL en i dK _ HA.out.pr);obtain ⟨X,hX⟩:∃X,X=iN (fun t:Int=>nd 1 e0 e0 0 [] [] t) (Bu L en dK i):=⟨_,rfl⟩;rw [<- hX];have HX:=ae hX;clear h hX;go_enter Tryz.func232,Tryz.ntmps232;go_wp2_with fail;refine Calls.mono (show Calls _ _ _ _ _ from H.out) ?_;intro e u hr;cases hR:Bu L en dK i with
 | error z =>
  obtain ⟨rfl,hb⟩:=bz hr hR;have HB:=ae hb;have dL:=HX.out;rw [hR] at dL;have ay:=ae dL;clear hb H dL hR;go_wp2;exact ⟨rfl,bn ay.out HB.out⟩
 | ok r =>
  obtain ⟨t,j⟩:=r;obtain ⟨⟨v,rfl,hv⟩,hp,hbt⟩:=bf hr hR;subst hv;have fK:=HX.out;rw [hR] at fK;have bh:=ae fK;clear fK;have bP:=ae (HA.out.call hp hbt);clear hp hbt H HA hR;obtain ⟨W,hW,hth,hbk,hpr,aO,_⟩:=bP.out.put #[.int .i64 1,.string ⟨#[]⟩,.int .i64 0,.slice none 0 0,.int .i64 t] rfl;have HW:=ae hW;have ax:=ae hth;have aj:=ae hbk;have HF:=ae (And.intro hpr aO);clear hW hth hbk hpr aO;go_wp2_with (refine wpList_store_mid rfl 101 (.tmp 2) (.tmp 5) rfl w.heap.size 0 #[.int .i64 1,.string ⟨#[]⟩,.int .i64 0,.slice none 0 0,.int .i64 t] rfl rfl ax.out jk (by simp [Value.oneCell']) ?_;rw [HW.out]);have z0:=af aj.out 0 _ rfl;have z1:=af aj.out 1 _ rfl;have z2:=af aj.out 2 _ rfl;have z3:=af aj.out 3 _ rfl;have z4:=af aj.out 4 _ rfl;refine bodyPost_ret (v:=.agg #[.int .i64 1,.string ⟨#[]⟩,.int .i64 0,.slice none 0 0,.int .i64 t]) (by simp [results,Tryz.results232,go_sem,z0,z1,z2,z3,z4]) rfl (bY bh.out (uL _ _ _ _ _ _) HF.out.1 HF.out.2)
theorem abj (w0:World) (p:Nat) (L:List Tk) (vL:Value) (en:Int) (i:Nat) (w:World) (h:PR w0 p L vL en i w) :
  Calls Tryz.prog 177 #[.pointer (some ⟨p,0,none⟩)] w (Rp w0 p L vL en (fC w.heap.size) w (iN (fun t:Tk=>nd 2 t.x e0 0 [] [] 0) (bM L en 3 i))):=by
 have HA:=ae (AP.start h 79 nz);have H:=ae (lf w0 p L vL en i 3 (by decide) _ HA.out.pr);obtain ⟨X,hX⟩:∃X,X=iN (fun t:Tk=>nd 2 t.x e0 0 [] [] 0) (bM L en 3 i):=⟨_,rfl⟩;rw [<- hX];have HX:=ae hX;clear h hX;go_enter Tryz.func177,Tryz.ntmps177;go_wp2_with fail;refine Calls.mono (show Calls _ _ _ _ _ from H.out) ?_;intro e u hr;cases hR:bM L en 3 i with
 | error z =>
  obtain ⟨rfl,hb⟩:=bz hr hR;have HB:=ae hb;have dL:=HX.out;rw [hR] at dL;have ay:=ae dL;clear hb H dL hR;go_wp2;exact ⟨rfl,bn ay.out HB.out⟩
 | ok r =>
  obtain ⟨t,j⟩:=r;obtain ⟨⟨v,rfl,hv⟩,hp,hbt⟩:=bf hr hR;subst hv;have fK:=HX.out;rw [hR] at fK;obtain ⟨k,x,n,a⟩:=t;have bh:=ae fK;clear fK;have bP:=ae (HA.out.call hp hbt);clear hp hbt H HA hR;have hfl:=fun (u:World)=>pR k x n a u;simp only [dI];obtain ⟨W,hW,hth,hbk,hpr,aO,_⟩:=bP.out.put #[.int .i64 2,.string x,.int .i64 0,.slice none 0 0] rfl;have HW:=ae hW;have ax:=ae hth;have aj:=ae hbk;have HF:=ae (And.intro hpr aO);clear hW hth hbk hpr aO;go_wp2_with (refine wpList_store_mid rfl 79 (.tmp 2) (.tmp 6) rfl w.heap.size 0 #[.int .i64 2,.string x,.int .i64 0,.slice none 0 0] rfl rfl ax.out jK (by simp [Value.oneCell']) ?_;rw [HW.out]);have z0:=af aj.out 0 _ rfl;have z1:=af aj.out 1 _ rfl;have z2:=af aj.out 2 _ rfl;have z3:=af aj.out 3 _ rfl;refine bodyPost_ret (v:=.agg #[.int .i64 2,.string x,.int .i64 0,.slice none 0 0]) (by simp [results,Tryz.results177,go_sem,z0,z1,z2,z3]) rfl (bY bh.out (Lf _ _ _ _) HF.out.1 HF.out.2)
theorem abh (w0:World) (p:Nat) (L:List Tk) (vL:Value) (en:Int) (i:Nat) (w:World) (h:PR w0 p L vL en i w) :
  Calls Tryz.prog 176 #[.pointer (some ⟨p,0,none⟩)] w (Rp w0 p L vL en (fC w.heap.size) w (iN (fun t:Tk=>qF t.x) (bM L en 1 i))):=by
 have HA:=ae (AP.start h 79 nz);have H:=ae (lf w0 p L vL en i 1 (by decide) _ HA.out.pr);obtain ⟨X,hX⟩:∃X,X=iN (fun t:Tk=>qF t.x) (bM L en 1 i):=⟨_,rfl⟩;rw [<- hX];have HX:=ae hX;clear h hX;go_enter Tryz.func176,Tryz.ntmps176;go_wp2_with fail;refine Calls.mono (show Calls _ _ _ _ _ from H.out) ?_;intro e u hr;cases hR:bM L en 1 i with
 | error z =>
  obtain ⟨rfl,hb⟩:=bz hr hR;have HB:=ae hb;have dL:=HX.out;rw [hR] at dL;have ay:=ae dL;clear hb H dL hR;go_wp2;exact ⟨rfl,bn ay.out HB.out⟩
 | ok r =>
  obtain ⟨t,j⟩:=r;obtain ⟨⟨v,rfl,hv⟩,hp,hbt⟩:=bf hr hR;subst hv;have fK:=HX.out;rw [hR] at fK;obtain ⟨k,x,n,a⟩:=t;have bh:=ae fK;clear fK;have bP:=ae (HA.out.call hp hbt);clear hp hbt H HA hR;have hfl:=fun (u:World)=>pR k x n a u;simp only [dI];by_cases hx:x=rX
  ·have q1:=sS hx;rw [TE] at q1;have e1:qF x=nd 1 e0 e0 0 [] [] 0:=if_pos hx;have bh:Hid (X=.ok (nd 1 e0 e0 0 [] [] 0,j)):=ae (by rw [bh.out];show Except.ok (qF x,j)=_;rw [e1]);clear hx e1;obtain ⟨W,hW,hth,hbk,hpr,aO,_⟩:=bP.out.put #[.int .i64 1,.string ⟨#[]⟩,.int .i64 0,.slice none 0 0] rfl;have HW:=ae hW;have ax:=ae hth;have aj:=ae hbk;have HF:=ae (And.intro hpr aO);clear hW hth hbk hpr aO;go_wp2_with (refine wpList_store_mid rfl 79 (.tmp 2) (.tmp 9) rfl w.heap.size 0 #[.int .i64 1,.string ⟨#[]⟩,.int .i64 0,.slice none 0 0] rfl rfl ax.out jK (by simp [Value.oneCell']) ?_;rw [HW.out]);have z0:=af aj.out 0 _ rfl;have z1:=af aj.out 1 _ rfl;have z2:=af aj.out 2 _ rfl;have z3:=af aj.out 3 _ rfl;refine bodyPost_ret (v:=.agg #[.int .i64 1,.string ⟨#[]⟩,.int .i64 0,.slice none 0 0]) (by simp [results,Tryz.results176,go_sem,z0,z1,z2,z3]) rfl (bY bh.out (Lf _ _ _ _) HF.out.1 HF.out.2)
  ·have q1:=q8 hx;rw [TE] at q1;have e1:qF x=nd 4 x e0 0 [] [] 0:=if_neg hx;have bh:Hid (X=.ok (nd 4 x e0 0 [] [] 0,j)):=ae (by rw [bh.out];show Except.ok (qF x,j)=_;rw [e1]);clear hx e1;obtain ⟨W,hW,hth,hbk,hpr,aO,_⟩:=bP.out.put #[.int .i64 4,.string x,.int .i64 0,.slice none 0 0] rfl;have HW:=ae hW;have ax:=ae hth;have aj:=ae hbk;have HF:=ae (And.intro hpr aO);clear hW hth hbk hpr aO;go_wp2_with (refine wpList_store_mid rfl 79 (.tmp 2) (.tmp 11) rfl w.heap.size 0 #[.int .i64 4,.string x,.int .i64 0,.slice none 0 0] rfl rfl ax.out jK (by simp [Value.oneCell']) ?_;rw [HW.out]);have z0:=af aj.out 0 _ rfl;have z1:=af aj.out 1 _ rfl;have z2:=af aj.out 2 _ rfl;have z3:=af aj.out 3 _ rfl;refine bodyPost_ret (v:=.agg #[.int .i64 4,.string x,.int .i64 0,.slice none 0 0]) (by simp [results,Tryz.results176,go_sem,z0,z1,z2,z3]) rfl (bY bh.out (Lf _ _ _ _) HF.out.1 HF.out.2)
abbrev Pz.lJ:Array Value:=#[.int .i64 1,.string e0,.func (.func 176) #[] #[],.int .i64 3,.string e0,.func (.func 177) #[] #[],.int .i64 6,.string sL,.func (.func 178) #[] #[]]
theorem BQ (w:World):Calls Tryz.prog 152 #[] w fun e w'=>e=.returned (.slice (some ⟨w.heap.size,0,none⟩) 3 3)/\w'=w.alloc (.cells lJ 187):=by
 go_enter Tryz.func152,Tryz.ntmps152;go_wp2;go_ret;exact ⟨rfl,rfl⟩
abbrev Pz.AR:Array Value:=#[.int .i64 2,.string e0,.func (.func 207) #[] #[],.int .i64 0,.string e0,.func (.func 208) #[] #[]]
theorem Ym (w:World):Calls Tryz.prog 198 #[] w fun e w'=>e=.returned (.slice (some ⟨w.heap.size,0,none⟩) 2 2)/\w'=w.alloc (.cells AR 207):=by
 go_enter Tryz.func198,Tryz.ntmps198;go_wp2;go_ret;exact ⟨rfl,rfl⟩
abbrev Pz.nX:Array Value:=#[.int .i64 1,.string e0,.func (.func 231) #[] #[],.int .i64 6,.string dK,.func (.func 232) #[] #[],.int .i64 4,.string e0,.func (.func 233) #[] #[],.int .i64 2,.string e0,.func (.func 219) #[] #[],.int .i64 6,.string sL,.func (.func 234) #[] #[]]
theorem Pw (w:World):Calls Tryz.prog 221 #[] w fun e w'=>e=.returned (.slice (some ⟨w.heap.size,0,none⟩) 5 5)/\w'=w.alloc (.cells nX 207):=by
 go_enter Tryz.func221,Tryz.ntmps221;go_wp2;go_ret;exact ⟨rfl,rfl⟩
abbrev Pz.AQ:Array Value:=#[.int .i64 5,.string gy,.func (.func 154) #[] #[],.int .i64 5,.string gG,.func (.func 155) #[] #[],.int .i64 5,.string gM,.func (.func 156) #[] #[],.int .i64 5,.string ig,.func (.func 157) #[] #[],.int .i64 0,.string e0,.func (.func 158) #[] #[]]
theorem Yi (w:World):Calls Tryz.prog 124 #[] w fun e w'=>e=.returned (.slice (some ⟨w.heap.size,0,none⟩) 5 5)/\w'=w.alloc (.cells AQ 163):=by
 go_enter Tryz.func124,Tryz.ntmps124;go_wp2;go_ret;exact ⟨rfl,rfl⟩
abbrev Pz.AO:Array Value:=#[.int .i64 5,.string ic,.func (.func 235) #[] #[],.int .i64 2,.string e0,.func (.func 236) #[] #[],.int .i64 0,.string e0,.func (.func 237) #[] #[]]
theorem Yf (w:World):Calls Tryz.prog 222 #[] w fun e w'=>e=.returned (.slice (some ⟨w.heap.size,0,none⟩) 3 3)/\w'=w.alloc (.cells AO 163):=by
 go_enter Tryz.func222,Tryz.ntmps222;go_wp2;go_ret;exact ⟨rfl,rfl⟩
abbrev Pz.mP:Array Value:=#[.int .i64 1,.string e0,.func (.func 245) #[] #[],.int .i64 4,.string e0,.func (.func 246) #[] #[],.int .i64 2,.string e0,.func (.func 241) #[] #[],.int .i64 6,.string sL,.func (.func 247) #[] #[]]
theorem Iz (w:World):Calls Tryz.prog 243 #[] w fun e w'=>e=.returned (.slice (some ⟨w.heap.size,0,none⟩) 4 4)/\w'=w.alloc (.cells mP 163):=by
 go_enter Tryz.func243,Tryz.ntmps243;go_wp2;go_ret;exact ⟨rfl,rfl⟩
end Go.Proofs.YtkdbgopgjbfhbaaGreatDoor
