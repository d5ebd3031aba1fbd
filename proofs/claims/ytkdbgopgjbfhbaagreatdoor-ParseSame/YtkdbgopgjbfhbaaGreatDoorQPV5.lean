/- Texts that the claim needs. -/
import Derived.Test.YtkdbgopgjbfhbaaGreatDoorQPV4
namespace Go.Proofs.YtkdbgopgjbfhbaaGreatDoor
open Go.RowKit Lx Pz bw
set_option linter.unusedVariables false
set_option maxRecDepth 100000
set_option maxHeartbeats 4000000
namespace Pz
def aW (B:Nat) (t v:Value) (w:World):Prop:=∃d,iU B d w t v
def bV (B:Nat) (t v:Value) (w:World):Prop:=∃d,kI B d w t v
def eu (B:Nat) (t v:Value) (w:World):Prop:=∃d,nP B d w t v
theorem cK:(Tryz.prog.info? 27).map (·.size)=some 7:=by kernel_rfl
theorem iC:(Tryz.prog.info? 101).map (·.size)=some 5:=by kernel_rfl
theorem iQ:(Tryz.prog.info? 79).map (·.size)=some 4:=by kernel_rfl
abbrev bS:Array Value:=#[.int .i64 0,.string ⟨#[]⟩,.string ⟨#[]⟩,.int .i64 0,.slice none 0 0,.slice none 0 0,.int .i64 0]
abbrev gH:Array Value:=#[.int .i64 0,.string ⟨#[]⟩,.int .i64 0,.slice none 0 0,.int .i64 0]
abbrev lL:Array Value:=#[.int .i64 0,.string ⟨#[]⟩,.int .i64 0,.slice none 0 0]
theorem LD (B:Nat) (k:Int) (x y:ByteArray) (n a:Int) (w:World):aW B (nd k x y n [] [] a) (.agg #[.int .i64 k,.string x,.string y,.int .i64 n,.slice none 0 0,.slice none 0 0,.int .i64 a]) w:=⟨0,k,x,y,n,[],[],a,_,_,rfl,rfl,xw _ _,xw _ _⟩
theorem uO (B:Nat) (k:Int) (x:ByteArray) (n a:Int) (w:World):bV B (nd k x e0 n [] [] a) (.agg #[.int .i64 k,.string x,.int .i64 n,.slice none 0 0,.int .i64 a]) w:=⟨0,k,x,n,[],a,_,rfl,rfl,xw _ _⟩
theorem KI (B:Nat) (k:Int) (x:ByteArray) (w:World):eu B (nd k x e0 0 [] [] 0) (.agg #[.int .i64 k,.string x,.int .i64 0,.slice none 0 0]) w:=⟨0,k,x,0,[],_,rfl,rfl,xw _ _⟩
def iJ {α β:Type} (f:α->β):Rd α->Rd β
 | .ok (a,j)=>.ok (f a,j)
 | .error z=>.error z
theorem bu {α:Type} {w0 w w':World} {p:Nat} {L:List Tk} {vL:Value} {en:Int} {V:α->Value->World->Prop} {X:Rd α} {z:Int} (h:X=.error z) (hb:Below w0.heap.size w0 w'):Rp w0 p L vL en V w X (.panicked (Av z)) w':=by subst h;exact ⟨rfl,hb⟩
theorem cH {α:Type} {w0 w w':World} {p:Nat} {L:List Tk} {vL:Value} {en:Int} {V:α->Value->World->Prop} {X:Rd α} {a:α} {j:Nat} {v:Value} (h:X=.ok (a,j)) (hv:V a v w') (hp:PR w0 p L vL en j w') (hb:But p w w'):Rp w0 p L vL en V w X (.returned v) w':=by subst h;exact ⟨⟨v,rfl,hv⟩,hp,hb⟩
theorem bC {α:Type} {w0 w w':World} {p:Nat} {L:List Tk} {vL:Value} {en:Int} {V:α->Value->World->Prop} {X:Rd α} {z:Int} {e:Ending} (hr:Rp w0 p L vL en V w X e w') (h:X=.error z):e=.panicked (Av z)/\Below w0.heap.size w0 w':=by subst h;exact hr
theorem bn {α:Type} {w0 w w':World} {p:Nat} {L:List Tk} {vL:Value} {en:Int} {V:α->Value->World->Prop} {X:Rd α} {a:α} {j:Nat} {e:Ending} (hr:Rp w0 p L vL en V w X e w') (h:X=.ok (a,j)):(∃v,e=.returned v/\V a v w')/\PR w0 p L vL en j w'/\But p w w':=by subst h;exact hr
end Pz
theorem Sm (w0:World) (p:Nat) (L:List Tk) (vL:Value) (en:Int) (i:Nat) (w:World) (h:PR w0 p L vL en i w) :
  Calls Tryz.prog 245 #[.pointer (some ⟨p,0,none⟩)] w (Rp w0 p L vL en (aW w.heap.size) w (iJ (fun t=>nd 1 t.x e0 0 [] [] t.a) (bU L en 1 i))):=by
 have HA:=ae (AP.start h 27 bS);have H:=ae (kT w0 p L vL en i 1 (by decide) _ HA.out.pr);obtain ⟨X,hX⟩:∃X,X=iJ (fun t:Tk=>nd 1 t.x e0 0 [] [] t.a) (bU L en 1 i):=⟨_,rfl⟩;rw [<- hX];have HX:=ae hX;clear h hX;go_enter Tryz.func245,Tryz.ntmps245;go_wp2_with fail;refine Calls.mono (show Calls _ _ _ _ _ from H.out) ?_;intro e u hr;cases hR:bU L en 1 i with
 | error z =>
  obtain ⟨rfl,hb⟩:=bC hr hR;have HB:=ae hb;have dN:=HX.out;rw [hR] at dN;have ay:=ae dN;clear hb H dN hR;go_wp2;exact ⟨rfl,bu ay.out HB.out⟩
 | ok r =>
  obtain ⟨t,j⟩:=r;obtain ⟨⟨v,rfl,hv⟩,hp,hbt⟩:=bn hr hR;subst hv;have fE:=HX.out;rw [hR] at fE;obtain ⟨k,x,n,a⟩:=t;have bq:=ae fE;clear fE;have aC:=ae (HA.out.call hp hbt);clear hp hbt H HA hR;obtain ⟨u2,hu2,fH,hb2,m0,m1,m2,m3,hpl⟩:=lW aC.out.pr k x n a;have bQ:=ae (aC.out.on hb2);go_upto_region 2 with fail
  try rw [<- hu2]
  generalize u.heap.size=q at *;clear hu2 fH hb2 aC;obtain ⟨W,hW,hth,hbk,hpr,aU,_⟩:=bQ.out.put #[.int .i64 1,.string x,.string ⟨#[]⟩,.int .i64 0,.slice none 0 0,.slice none 0 0,.int .i64 a] rfl;have HW:=ae hW;have az:=ae hth;have ai:=ae hbk;have HF:=ae (And.intro hpr aU);clear hW hth hbk hpr aU;go_wp2_with (refine wpList_store_mid rfl 27 (.tmp 2) (.tmp 10) rfl w.heap.size 0 #[.int .i64 1,.string x,.string ⟨#[]⟩,.int .i64 0,.slice none 0 0,.slice none 0 0,.int .i64 a] rfl rfl az.out cK (by simp [Value.oneCell']) ?_;rw [HW.out]);have z0:=af ai.out 0 _ rfl;have z1:=af ai.out 1 _ rfl;have z2:=af ai.out 2 _ rfl;have z3:=af ai.out 3 _ rfl;have z4:=af ai.out 4 _ rfl;have z5:=af ai.out 5 _ rfl;have z6:=af ai.out 6 _ rfl;refine bodyPost_ret (v:=.agg #[.int .i64 1,.string x,.string ⟨#[]⟩,.int .i64 0,.slice none 0 0,.slice none 0 0,.int .i64 a]) (by simp [results,Tryz.results245,go_sem,z0,z1,z2,z3,z4,z5,z6]) rfl (cH bq.out (LD _ _ _ _ _ _ _) HF.out.1 HF.out.2)
theorem Sn (w0:World) (p:Nat) (L:List Tk) (vL:Value) (en:Int) (i:Nat) (w:World) (h:PR w0 p L vL en i w) :
  Calls Tryz.prog 246 #[.pointer (some ⟨p,0,none⟩)] w (Rp w0 p L vL en (aW w.heap.size) w (iJ (fun t=>nd 2 e0 e0 t.n [] [] t.a) (bU L en 4 i))):=by
 have HA:=ae (AP.start h 27 bS);have H:=ae (kT w0 p L vL en i 4 (by decide) _ HA.out.pr);obtain ⟨X,hX⟩:∃X,X=iJ (fun t:Tk=>nd 2 e0 e0 t.n [] [] t.a) (bU L en 4 i):=⟨_,rfl⟩;rw [<- hX];have HX:=ae hX;clear h hX;go_enter Tryz.func246,Tryz.ntmps246;go_wp2_with fail;refine Calls.mono (show Calls _ _ _ _ _ from H.out) ?_;intro e u hr;cases hR:bU L en 4 i with
 | error z =>
  obtain ⟨rfl,hb⟩:=bC hr hR;have HB:=ae hb;have dN:=HX.out;rw [hR] at dN;have ay:=ae dN;clear hb H dN hR;go_wp2;exact ⟨rfl,bu ay.out HB.out⟩
 | ok r =>
  obtain ⟨t,j⟩:=r;obtain ⟨⟨v,rfl,hv⟩,hp,hbt⟩:=bn hr hR;subst hv;have fE:=HX.out;rw [hR] at fE;obtain ⟨k,x,n,a⟩:=t;have bq:=ae fE;clear fE;have aC:=ae (HA.out.call hp hbt);clear hp hbt H HA hR;obtain ⟨u2,hu2,fH,hb2,m0,m1,m2,m3,hpl⟩:=lW aC.out.pr k x n a;have bQ:=ae (aC.out.on hb2);go_upto_region 2 with fail
  try rw [<- hu2]
  generalize u.heap.size=q at *;clear hu2 fH hb2 aC;obtain ⟨W,hW,hth,hbk,hpr,aU,_⟩:=bQ.out.put #[.int .i64 2,.string ⟨#[]⟩,.string ⟨#[]⟩,.int .i64 n,.slice none 0 0,.slice none 0 0,.int .i64 a] rfl;have HW:=ae hW;have az:=ae hth;have ai:=ae hbk;have HF:=ae (And.intro hpr aU);clear hW hth hbk hpr aU;go_wp2_with (refine wpList_store_mid rfl 27 (.tmp 2) (.tmp 10) rfl w.heap.size 0 #[.int .i64 2,.string ⟨#[]⟩,.string ⟨#[]⟩,.int .i64 n,.slice none 0 0,.slice none 0 0,.int .i64 a] rfl rfl az.out cK (by simp [Value.oneCell']) ?_;rw [HW.out]);have z0:=af ai.out 0 _ rfl;have z1:=af ai.out 1 _ rfl;have z2:=af ai.out 2 _ rfl;have z3:=af ai.out 3 _ rfl;have z4:=af ai.out 4 _ rfl;have z5:=af ai.out 5 _ rfl;have z6:=af ai.out 6 _ rfl;refine bodyPost_ret (v:=.agg #[.int .i64 2,.string ⟨#[]⟩,.string ⟨#[]⟩,.int .i64 n,.slice none 0 0,.slice none 0 0,.int .i64 a]) (by simp [results,Tryz.results246,go_sem,z0,z1,z2,z3,z4,z5,z6]) rfl (cH bq.out (LD _ _ _ _ _ _ _) HF.out.1 HF.out.2)
theorem Jm (w0:World) (p:Nat) (L:List Tk) (vL:Value) (en:Int) (i:Nat) (w:World) (h:PR w0 p L vL en i w) :
  Calls Tryz.prog 241 #[.pointer (some ⟨p,0,none⟩)] w (Rp w0 p L vL en (aW w.heap.size) w (iJ (fun t=>nd 8 t.x e0 0 [] [] t.a) (bU L en 2 i))):=by
 have HA:=ae (AP.start h 27 bS);have H:=ae (kT w0 p L vL en i 2 (by decide) _ HA.out.pr);obtain ⟨X,hX⟩:∃X,X=iJ (fun t:Tk=>nd 8 t.x e0 0 [] [] t.a) (bU L en 2 i):=⟨_,rfl⟩;rw [<- hX];have HX:=ae hX;clear h hX;go_enter Tryz.func241,Tryz.ntmps241;go_wp2_with fail;refine Calls.mono (show Calls _ _ _ _ _ from H.out) ?_;intro e u hr;cases hR:bU L en 2 i with
 | error z =>
  obtain ⟨rfl,hb⟩:=bC hr hR;have HB:=ae hb;have dN:=HX.out;rw [hR] at dN;have ay:=ae dN;clear hb H dN hR;go_wp2;exact ⟨rfl,bu ay.out HB.out⟩
 | ok r =>
  obtain ⟨t,j⟩:=r;obtain ⟨⟨v,rfl,hv⟩,hp,hbt⟩:=bn hr hR;subst hv;have fE:=HX.out;rw [hR] at fE;obtain ⟨k,x,n,a⟩:=t;have bq:=ae fE;clear fE;have aC:=ae (HA.out.call hp hbt);clear hp hbt H HA hR;obtain ⟨u2,hu2,fH,hb2,m0,m1,m2,m3,hpl⟩:=lW aC.out.pr k x n a;have bQ:=ae (aC.out.on hb2);go_upto_region 2 with fail
  try rw [<- hu2]
  generalize u.heap.size=q at *;clear hu2 fH hb2 aC;obtain ⟨W,hW,hth,hbk,hpr,aU,_⟩:=bQ.out.put #[.int .i64 8,.string x,.string ⟨#[]⟩,.int .i64 0,.slice none 0 0,.slice none 0 0,.int .i64 a] rfl;have HW:=ae hW;have az:=ae hth;have ai:=ae hbk;have HF:=ae (And.intro hpr aU);clear hW hth hbk hpr aU;go_wp2_with (refine wpList_store_mid rfl 27 (.tmp 2) (.tmp 10) rfl w.heap.size 0 #[.int .i64 8,.string x,.string ⟨#[]⟩,.int .i64 0,.slice none 0 0,.slice none 0 0,.int .i64 a] rfl rfl az.out cK (by simp [Value.oneCell']) ?_;rw [HW.out]);have z0:=af ai.out 0 _ rfl;have z1:=af ai.out 1 _ rfl;have z2:=af ai.out 2 _ rfl;have z3:=af ai.out 3 _ rfl;have z4:=af ai.out 4 _ rfl;have z5:=af ai.out 5 _ rfl;have z6:=af ai.out 6 _ rfl;refine bodyPost_ret (v:=.agg #[.int .i64 8,.string x,.string ⟨#[]⟩,.int .i64 0,.slice none 0 0,.slice none 0 0,.int .i64 a]) (by simp [results,Tryz.results241,go_sem,z0,z1,z2,z3,z4,z5,z6]) rfl (cH bq.out (LD _ _ _ _ _ _ _) HF.out.1 HF.out.2)
theorem Q7 (w0:World) (p:Nat) (L:List Tk) (vL:Value) (en:Int) (i:Nat) (w:World) (h:PR w0 p L vL en i w) :
  Calls Tryz.prog 231 #[.pointer (some ⟨p,0,none⟩)] w (Rp w0 p L vL en (bV w.heap.size) w (iJ (fun t=>nd 2 t.x e0 0 [] [] t.a) (bU L en 1 i))):=by
 have HA:=ae (AP.start h 101 gH);have H:=ae (kT w0 p L vL en i 1 (by decide) _ HA.out.pr);obtain ⟨X,hX⟩:∃X,X=iJ (fun t:Tk=>nd 2 t.x e0 0 [] [] t.a) (bU L en 1 i):=⟨_,rfl⟩;rw [<- hX];have HX:=ae hX;clear h hX;go_enter Tryz.func231,Tryz.ntmps231;go_wp2_with fail;refine Calls.mono (show Calls _ _ _ _ _ from H.out) ?_;intro e u hr;cases hR:bU L en 1 i with
 | error z =>
  obtain ⟨rfl,hb⟩:=bC hr hR;have HB:=ae hb;have dN:=HX.out;rw [hR] at dN;have ay:=ae dN;clear hb H dN hR;go_wp2;exact ⟨rfl,bu ay.out HB.out⟩
 | ok r =>
  obtain ⟨t,j⟩:=r;obtain ⟨⟨v,rfl,hv⟩,hp,hbt⟩:=bn hr hR;subst hv;have fE:=HX.out;rw [hR] at fE;obtain ⟨k,x,n,a⟩:=t;have bq:=ae fE;clear fE;have aC:=ae (HA.out.call hp hbt);clear hp hbt H HA hR;obtain ⟨u2,hu2,fH,hb2,m0,m1,m2,m3,hpl⟩:=lW aC.out.pr k x n a;have bQ:=ae (aC.out.on hb2);go_upto_region 2 with fail
  try rw [<- hu2]
  generalize u.heap.size=q at *;clear hu2 fH hb2 aC;obtain ⟨W,hW,hth,hbk,hpr,aU,_⟩:=bQ.out.put #[.int .i64 2,.string x,.int .i64 0,.slice none 0 0,.int .i64 a] rfl;have HW:=ae hW;have az:=ae hth;have ai:=ae hbk;have HF:=ae (And.intro hpr aU);clear hW hth hbk hpr aU;go_wp2_with (refine wpList_store_mid rfl 101 (.tmp 2) (.tmp 10) rfl w.heap.size 0 #[.int .i64 2,.string x,.int .i64 0,.slice none 0 0,.int .i64 a] rfl rfl az.out iC (by simp [Value.oneCell']) ?_;rw [HW.out]);have z0:=af ai.out 0 _ rfl;have z1:=af ai.out 1 _ rfl;have z2:=af ai.out 2 _ rfl;have z3:=af ai.out 3 _ rfl;have z4:=af ai.out 4 _ rfl;refine bodyPost_ret (v:=.agg #[.int .i64 2,.string x,.int .i64 0,.slice none 0 0,.int .i64 a]) (by simp [results,Tryz.results231,go_sem,z0,z1,z2,z3,z4]) rfl (cH bq.out (uO _ _ _ _ _ _) HF.out.1 HF.out.2)
theorem Q9 (w0:World) (p:Nat) (L:List Tk) (vL:Value) (en:Int) (i:Nat) (w:World) (h:PR w0 p L vL en i w) :
  Calls Tryz.prog 233 #[.pointer (some ⟨p,0,none⟩)] w (Rp w0 p L vL en (bV w.heap.size) w (iJ (fun t=>nd 3 e0 e0 t.n [] [] t.a) (bU L en 4 i))):=by
 have HA:=ae (AP.start h 101 gH);have H:=ae (kT w0 p L vL en i 4 (by decide) _ HA.out.pr);obtain ⟨X,hX⟩:∃X,X=iJ (fun t:Tk=>nd 3 e0 e0 t.n [] [] t.a) (bU L en 4 i):=⟨_,rfl⟩;rw [<- hX];have HX:=ae hX;clear h hX;go_enter Tryz.func233,Tryz.ntmps233;go_wp2_with fail;refine Calls.mono (show Calls _ _ _ _ _ from H.out) ?_;intro e u hr;cases hR:bU L en 4 i with
 | error z =>
  obtain ⟨rfl,hb⟩:=bC hr hR;have HB:=ae hb;have dN:=HX.out;rw [hR] at dN;have ay:=ae dN;clear hb H dN hR;go_wp2;exact ⟨rfl,bu ay.out HB.out⟩
 | ok r =>
  obtain ⟨t,j⟩:=r;obtain ⟨⟨v,rfl,hv⟩,hp,hbt⟩:=bn hr hR;subst hv;have fE:=HX.out;rw [hR] at fE;obtain ⟨k,x,n,a⟩:=t;have bq:=ae fE;clear fE;have aC:=ae (HA.out.call hp hbt);clear hp hbt H HA hR;obtain ⟨u2,hu2,fH,hb2,m0,m1,m2,m3,hpl⟩:=lW aC.out.pr k x n a;have bQ:=ae (aC.out.on hb2);go_upto_region 2 with fail
  try rw [<- hu2]
  generalize u.heap.size=q at *;clear hu2 fH hb2 aC;obtain ⟨W,hW,hth,hbk,hpr,aU,_⟩:=bQ.out.put #[.int .i64 3,.string ⟨#[]⟩,.int .i64 n,.slice none 0 0,.int .i64 a] rfl;have HW:=ae hW;have az:=ae hth;have ai:=ae hbk;have HF:=ae (And.intro hpr aU);clear hW hth hbk hpr aU;go_wp2_with (refine wpList_store_mid rfl 101 (.tmp 2) (.tmp 10) rfl w.heap.size 0 #[.int .i64 3,.string ⟨#[]⟩,.int .i64 n,.slice none 0 0,.int .i64 a] rfl rfl az.out iC (by simp [Value.oneCell']) ?_;rw [HW.out]);have z0:=af ai.out 0 _ rfl;have z1:=af ai.out 1 _ rfl;have z2:=af ai.out 2 _ rfl;have z3:=af ai.out 3 _ rfl;have z4:=af ai.out 4 _ rfl;refine bodyPost_ret (v:=.agg #[.int .i64 3,.string ⟨#[]⟩,.int .i64 n,.slice none 0 0,.int .i64 a]) (by simp [results,Tryz.results233,go_sem,z0,z1,z2,z3,z4]) rfl (cH bq.out (uO _ _ _ _ _ _) HF.out.1 HF.out.2)
theorem Jr (w0:World) (p:Nat) (L:List Tk) (vL:Value) (en:Int) (i:Nat) (w:World) (h:PR w0 p L vL en i w) :
  Calls Tryz.prog 219 #[.pointer (some ⟨p,0,none⟩)] w (Rp w0 p L vL en (bV w.heap.size) w (iJ (fun t=>nd 4 t.x e0 0 [] [] t.a) (bU L en 2 i))):=by
 have HA:=ae (AP.start h 101 gH);have H:=ae (kT w0 p L vL en i 2 (by decide) _ HA.out.pr);obtain ⟨X,hX⟩:∃X,X=iJ (fun t:Tk=>nd 4 t.x e0 0 [] [] t.a) (bU L en 2 i):=⟨_,rfl⟩;rw [<- hX];have HX:=ae hX;clear h hX;go_enter Tryz.func219,Tryz.ntmps219;go_wp2_with fail;refine Calls.mono (show Calls _ _ _ _ _ from H.out) ?_;intro e u hr;cases hR:bU L en 2 i with
 | error z =>
  obtain ⟨rfl,hb⟩:=bC hr hR;have HB:=ae hb;have dN:=HX.out;rw [hR] at dN;have ay:=ae dN;clear hb H dN hR;go_wp2;exact ⟨rfl,bu ay.out HB.out⟩
 | ok r =>
  obtain ⟨t,j⟩:=r;obtain ⟨⟨v,rfl,hv⟩,hp,hbt⟩:=bn hr hR;subst hv;have fE:=HX.out;rw [hR] at fE;obtain ⟨k,x,n,a⟩:=t;have bq:=ae fE;clear fE;have aC:=ae (HA.out.call hp hbt);clear hp hbt H HA hR;obtain ⟨u2,hu2,fH,hb2,m0,m1,m2,m3,hpl⟩:=lW aC.out.pr k x n a;have bQ:=ae (aC.out.on hb2);go_upto_region 2 with fail
  try rw [<- hu2]
  generalize u.heap.size=q at *;clear hu2 fH hb2 aC;obtain ⟨W,hW,hth,hbk,hpr,aU,_⟩:=bQ.out.put #[.int .i64 4,.string x,.int .i64 0,.slice none 0 0,.int .i64 a] rfl;have HW:=ae hW;have az:=ae hth;have ai:=ae hbk;have HF:=ae (And.intro hpr aU);clear hW hth hbk hpr aU;go_wp2_with (refine wpList_store_mid rfl 101 (.tmp 2) (.tmp 10) rfl w.heap.size 0 #[.int .i64 4,.string x,.int .i64 0,.slice none 0 0,.int .i64 a] rfl rfl az.out iC (by simp [Value.oneCell']) ?_;rw [HW.out]);have z0:=af ai.out 0 _ rfl;have z1:=af ai.out 1 _ rfl;have z2:=af ai.out 2 _ rfl;have z3:=af ai.out 3 _ rfl;have z4:=af ai.out 4 _ rfl;refine bodyPost_ret (v:=.agg #[.int .i64 4,.string x,.int .i64 0,.slice none 0 0,.int .i64 a]) (by simp [results,Tryz.results219,go_sem,z0,z1,z2,z3,z4]) rfl (cH bq.out (uO _ _ _ _ _ _) HF.out.1 HF.out.2)
namespace Pz
def AY (L:List Tk) (en:Int) (s:ByteArray) (i:Nat):Rd Int:=match bf L en s i with
 | .ok j=>.ok ((tk L en i).a,j)
 | .error z=>.error z
theorem pQ (k:Int) (x:ByteArray) (n a:Int) (u:World):(Instr.field 47 (.agg #[.int .i64 k,.string x,.int .i64 n,.int .i64 a]) 1).run Tryz.prog u=.ok (.string x) u:=by simp [Instr.field,asAgg,go_sem]
theorem RI:tL.toList = [105,110,116]:=by rw [ByteArray.toList_eq]
end Pz
theorem aaO (w0:World) (p:Nat) (L:List Tk) (vL:Value) (en:Int) (i:Nat) (s:ByteArray) (w:World) (h:PR w0 p L vL en i w) :
  Calls Tryz.prog 120 #[.pointer (some ⟨p,0,none⟩),.string s] w (Rp w0 p L vL en (fun (a:Int) v _=>v=.int .i64 a) w (AY L en s i)):=gQ w0 p L vL en i s w h
theorem Q8 (w0:World) (p:Nat) (L:List Tk) (vL:Value) (en:Int) (i:Nat) (w:World) (h:PR w0 p L vL en i w) :
  Calls Tryz.prog 232 #[.pointer (some ⟨p,0,none⟩)] w (Rp w0 p L vL en (bV w.heap.size) w (iJ (fun t:Int=>nd 1 e0 e0 0 [] [] t) (AY L en eB i))):=by
 have HA:=ae (AP.start h 101 gH);have H:=ae (aaO w0 p L vL en i eB _ HA.out.pr);obtain ⟨X,hX⟩:∃X,X=iJ (fun t:Int=>nd 1 e0 e0 0 [] [] t) (AY L en eB i):=⟨_,rfl⟩;rw [<- hX];have HX:=ae hX;clear h hX;go_enter Tryz.func232,Tryz.ntmps232;go_wp2_with fail;refine Calls.mono (show Calls _ _ _ _ _ from H.out) ?_;intro e u hr;cases hR:AY L en eB i with
 | error z =>
  obtain ⟨rfl,hb⟩:=bC hr hR;have HB:=ae hb;have dN:=HX.out;rw [hR] at dN;have ay:=ae dN;clear hb H dN hR;go_wp2;exact ⟨rfl,bu ay.out HB.out⟩
 | ok r =>
  obtain ⟨t,j⟩:=r;obtain ⟨⟨v,rfl,hv⟩,hp,hbt⟩:=bn hr hR;subst hv;have fE:=HX.out;rw [hR] at fE;have bq:=ae fE;clear fE;have bQ:=ae (HA.out.call hp hbt);clear hp hbt H HA hR;obtain ⟨W,hW,hth,hbk,hpr,aU,_⟩:=bQ.out.put #[.int .i64 1,.string ⟨#[]⟩,.int .i64 0,.slice none 0 0,.int .i64 t] rfl;have HW:=ae hW;have az:=ae hth;have ai:=ae hbk;have HF:=ae (And.intro hpr aU);clear hW hth hbk hpr aU;go_wp2_with (refine wpList_store_mid rfl 101 (.tmp 2) (.tmp 5) rfl w.heap.size 0 #[.int .i64 1,.string ⟨#[]⟩,.int .i64 0,.slice none 0 0,.int .i64 t] rfl rfl az.out iC (by simp [Value.oneCell']) ?_;rw [HW.out]);have z0:=af ai.out 0 _ rfl;have z1:=af ai.out 1 _ rfl;have z2:=af ai.out 2 _ rfl;have z3:=af ai.out 3 _ rfl;have z4:=af ai.out 4 _ rfl;refine bodyPost_ret (v:=.agg #[.int .i64 1,.string ⟨#[]⟩,.int .i64 0,.slice none 0 0,.int .i64 t]) (by simp [results,Tryz.results232,go_sem,z0,z1,z2,z3,z4]) rfl (cH bq.out (uO _ _ _ _ _ _) HF.out.1 HF.out.2)
theorem Z4 (w0:World) (p:Nat) (L:List Tk) (vL:Value) (en:Int) (i:Nat) (w:World) (h:PR w0 p L vL en i w) :
  Calls Tryz.prog 177 #[.pointer (some ⟨p,0,none⟩)] w (Rp w0 p L vL en (eu w.heap.size) w (iJ (fun t:Tk=>nd 2 t.x e0 0 [] [] 0) (bU L en 3 i))):=by
 have HA:=ae (AP.start h 79 lL);have H:=ae (kT w0 p L vL en i 3 (by decide) _ HA.out.pr);obtain ⟨X,hX⟩:∃X,X=iJ (fun t:Tk=>nd 2 t.x e0 0 [] [] 0) (bU L en 3 i):=⟨_,rfl⟩;rw [<- hX];have HX:=ae hX;clear h hX;go_enter Tryz.func177,Tryz.ntmps177;go_wp2_with fail;refine Calls.mono (show Calls _ _ _ _ _ from H.out) ?_;intro e u hr;cases hR:bU L en 3 i with
 | error z =>
  obtain ⟨rfl,hb⟩:=bC hr hR;have HB:=ae hb;have dN:=HX.out;rw [hR] at dN;have ay:=ae dN;clear hb H dN hR;go_wp2;exact ⟨rfl,bu ay.out HB.out⟩
 | ok r =>
  obtain ⟨t,j⟩:=r;obtain ⟨⟨v,rfl,hv⟩,hp,hbt⟩:=bn hr hR;subst hv;have fE:=HX.out;rw [hR] at fE;obtain ⟨k,x,n,a⟩:=t;have bq:=ae fE;clear fE;have bQ:=ae (HA.out.call hp hbt);clear hp hbt H HA hR;have hfl:=fun (u:World)=>pQ k x n a u;simp only [dM];obtain ⟨W,hW,hth,hbk,hpr,aU,_⟩:=bQ.out.put #[.int .i64 2,.string x,.int .i64 0,.slice none 0 0] rfl;have HW:=ae hW;have az:=ae hth;have ai:=ae hbk;have HF:=ae (And.intro hpr aU);clear hW hth hbk hpr aU;go_wp2_with (refine wpList_store_mid rfl 79 (.tmp 2) (.tmp 6) rfl w.heap.size 0 #[.int .i64 2,.string x,.int .i64 0,.slice none 0 0] rfl rfl az.out iQ (by simp [Value.oneCell']) ?_;rw [HW.out]);have z0:=af ai.out 0 _ rfl;have z1:=af ai.out 1 _ rfl;have z2:=af ai.out 2 _ rfl;have z3:=af ai.out 3 _ rfl;refine bodyPost_ret (v:=.agg #[.int .i64 2,.string x,.int .i64 0,.slice none 0 0]) (by simp [results,Tryz.results177,go_sem,z0,z1,z2,z3]) rfl (cH bq.out (KI _ _ _ _) HF.out.1 HF.out.2)
theorem Z3 (w0:World) (p:Nat) (L:List Tk) (vL:Value) (en:Int) (i:Nat) (w:World) (h:PR w0 p L vL en i w) :
  Calls Tryz.prog 176 #[.pointer (some ⟨p,0,none⟩)] w (Rp w0 p L vL en (eu w.heap.size) w (iJ (fun t:Tk=>qG t.x) (bU L en 1 i))):=by
 have HA:=ae (AP.start h 79 lL);have H:=ae (kT w0 p L vL en i 1 (by decide) _ HA.out.pr);obtain ⟨X,hX⟩:∃X,X=iJ (fun t:Tk=>qG t.x) (bU L en 1 i):=⟨_,rfl⟩;rw [<- hX];have HX:=ae hX;clear h hX;go_enter Tryz.func176,Tryz.ntmps176;go_wp2_with fail;refine Calls.mono (show Calls _ _ _ _ _ from H.out) ?_;intro e u hr;cases hR:bU L en 1 i with
 | error z =>
  obtain ⟨rfl,hb⟩:=bC hr hR;have HB:=ae hb;have dN:=HX.out;rw [hR] at dN;have ay:=ae dN;clear hb H dN hR;go_wp2;exact ⟨rfl,bu ay.out HB.out⟩
 | ok r =>
  obtain ⟨t,j⟩:=r;obtain ⟨⟨v,rfl,hv⟩,hp,hbt⟩:=bn hr hR;subst hv;have fE:=HX.out;rw [hR] at fE;obtain ⟨k,x,n,a⟩:=t;have bq:=ae fE;clear fE;have bQ:=ae (HA.out.call hp hbt);clear hp hbt H HA hR;have hfl:=fun (u:World)=>pQ k x n a u;simp only [dM];by_cases hx:x=tL
  ·have q1:=uB hx;rw [RI] at q1;have e1:qG x=nd 1 e0 e0 0 [] [] 0:=if_pos hx;have bq:Hid (X=.ok (nd 1 e0 e0 0 [] [] 0,j)):=ae (by rw [bq.out];show Except.ok (qG x,j)=_;rw [e1]);clear hx e1;obtain ⟨W,hW,hth,hbk,hpr,aU,_⟩:=bQ.out.put #[.int .i64 1,.string ⟨#[]⟩,.int .i64 0,.slice none 0 0] rfl;have HW:=ae hW;have az:=ae hth;have ai:=ae hbk;have HF:=ae (And.intro hpr aU);clear hW hth hbk hpr aU;go_wp2_with (refine wpList_store_mid rfl 79 (.tmp 2) (.tmp 9) rfl w.heap.size 0 #[.int .i64 1,.string ⟨#[]⟩,.int .i64 0,.slice none 0 0] rfl rfl az.out iQ (by simp [Value.oneCell']) ?_;rw [HW.out]);have z0:=af ai.out 0 _ rfl;have z1:=af ai.out 1 _ rfl;have z2:=af ai.out 2 _ rfl;have z3:=af ai.out 3 _ rfl;refine bodyPost_ret (v:=.agg #[.int .i64 1,.string ⟨#[]⟩,.int .i64 0,.slice none 0 0]) (by simp [results,Tryz.results176,go_sem,z0,z1,z2,z3]) rfl (cH bq.out (KI _ _ _ _) HF.out.1 HF.out.2)
  ·have q1:=sQ hx;rw [RI] at q1;have e1:qG x=nd 4 x e0 0 [] [] 0:=if_neg hx;have bq:Hid (X=.ok (nd 4 x e0 0 [] [] 0,j)):=ae (by rw [bq.out];show Except.ok (qG x,j)=_;rw [e1]);clear hx e1;obtain ⟨W,hW,hth,hbk,hpr,aU,_⟩:=bQ.out.put #[.int .i64 4,.string x,.int .i64 0,.slice none 0 0] rfl;have HW:=ae hW;have az:=ae hth;have ai:=ae hbk;have HF:=ae (And.intro hpr aU);clear hW hth hbk hpr aU;go_wp2_with (refine wpList_store_mid rfl 79 (.tmp 2) (.tmp 11) rfl w.heap.size 0 #[.int .i64 4,.string x,.int .i64 0,.slice none 0 0] rfl rfl az.out iQ (by simp [Value.oneCell']) ?_;rw [HW.out]);have z0:=af ai.out 0 _ rfl;have z1:=af ai.out 1 _ rfl;have z2:=af ai.out 2 _ rfl;have z3:=af ai.out 3 _ rfl;refine bodyPost_ret (v:=.agg #[.int .i64 4,.string x,.int .i64 0,.slice none 0 0]) (by simp [results,Tryz.results176,go_sem,z0,z1,z2,z3]) rfl (cH bq.out (KI _ _ _ _) HF.out.1 HF.out.2)
abbrev Pz.lj:Array Value:=#[.int .i64 1,.string e0,.func (.func 176) #[] #[],.int .i64 3,.string e0,.func (.func 177) #[] #[],.int .i64 6,.string sL,.func (.func 178) #[] #[]]
theorem Bn (w:World):Calls Tryz.prog 152 #[] w fun e w'=>e=.returned (.slice (some ⟨w.heap.size,0,none⟩) 3 3)/\w'=w.alloc (.cells lj 187):=by
 go_enter Tryz.func152,Tryz.ntmps152;go_wp2;go_ret;exact ⟨rfl,rfl⟩
abbrev Pz.Al:Array Value:=#[.int .i64 2,.string e0,.func (.func 207) #[] #[],.int .i64 0,.string e0,.func (.func 208) #[] #[]]
theorem V7 (w:World):Calls Tryz.prog 198 #[] w fun e w'=>e=.returned (.slice (some ⟨w.heap.size,0,none⟩) 2 2)/\w'=w.alloc (.cells Al 207):=by
 go_enter Tryz.func198,Tryz.ntmps198;go_wp2;go_ret;exact ⟨rfl,rfl⟩
abbrev Pz.nO:Array Value:=#[.int .i64 1,.string e0,.func (.func 231) #[] #[],.int .i64 6,.string eB,.func (.func 232) #[] #[],.int .i64 4,.string e0,.func (.func 233) #[] #[],.int .i64 2,.string e0,.func (.func 219) #[] #[],.int .i64 6,.string sL,.func (.func 234) #[] #[]]
theorem NZ (w:World):Calls Tryz.prog 221 #[] w fun e w'=>e=.returned (.slice (some ⟨w.heap.size,0,none⟩) 5 5)/\w'=w.alloc (.cells nO 207):=by
 go_enter Tryz.func221,Tryz.ntmps221;go_wp2;go_ret;exact ⟨rfl,rfl⟩
abbrev Pz.Ak:Array Value:=#[.int .i64 5,.string ic,.func (.func 154) #[] #[],.int .i64 5,.string iB,.func (.func 155) #[] #[],.int .i64 5,.string iF,.func (.func 156) #[] #[],.int .i64 5,.string iW,.func (.func 157) #[] #[],.int .i64 0,.string e0,.func (.func 158) #[] #[]]
theorem V3 (w:World):Calls Tryz.prog 124 #[] w fun e w'=>e=.returned (.slice (some ⟨w.heap.size,0,none⟩) 5 5)/\w'=w.alloc (.cells Ak 163):=by
 go_enter Tryz.func124,Tryz.ntmps124;go_wp2;go_ret;exact ⟨rfl,rfl⟩
abbrev Pz.Aj:Array Value:=#[.int .i64 5,.string iV,.func (.func 235) #[] #[],.int .i64 2,.string e0,.func (.func 236) #[] #[],.int .i64 0,.string e0,.func (.func 237) #[] #[]]
theorem VX (w:World):Calls Tryz.prog 222 #[] w fun e w'=>e=.returned (.slice (some ⟨w.heap.size,0,none⟩) 3 3)/\w'=w.alloc (.cells Aj 163):=by
 go_enter Tryz.func222,Tryz.ntmps222;go_wp2;go_ret;exact ⟨rfl,rfl⟩
abbrev Pz.mG:Array Value:=#[.int .i64 1,.string e0,.func (.func 245) #[] #[],.int .i64 4,.string e0,.func (.func 246) #[] #[],.int .i64 2,.string e0,.func (.func 241) #[] #[],.int .i64 6,.string sL,.func (.func 247) #[] #[]]
theorem Iu (w:World):Calls Tryz.prog 243 #[] w fun e w'=>e=.returned (.slice (some ⟨w.heap.size,0,none⟩) 4 4)/\w'=w.alloc (.cells mG 163):=by
 go_enter Tryz.func243,Tryz.ntmps243;go_wp2;go_ret;exact ⟨rfl,rfl⟩
end Go.Proofs.YtkdbgopgjbfhbaaGreatDoor
