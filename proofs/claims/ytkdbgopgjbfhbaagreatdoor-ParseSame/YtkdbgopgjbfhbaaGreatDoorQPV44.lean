/- Texts that the claim needs. -/
import Derived.Test.YtkdbgopgjbfhbaaGreatDoorQPV31
import Derived.Test.YtkdbgopgjbfhbaaGreatDoorQPV36
import Derived.Test.YtkdbgopgjbfhbaaGreatDoorQPV43
import Derived.Test.YtkdbgopgjbfhbaaGreatDoorQPV37
namespace Go.Proofs.YtkdbgopgjbfhbaaGreatDoor
open Go.RowKit Lx Pz bw
set_option linter.unusedVariables false
set_option maxRecDepth 100000
set_option maxHeartbeats 32000000
namespace Pz
def DF (ds:List Value) (t:Value):Prop:=(ds.length<=200/\∀c ∈ ds,xc c)/\∃d,few d t
theorem aas {t:Value} (h:∃d,few d t):y8 [t]:=by
 obtain ⟨d,h⟩:=h
 exact ⟨d+1,by simp,fun j x hj hx=>by
  have:j=0:=by simp at hj;omega
  subst this;simp at hx;subst hx;exact ⟨d,rfl,h⟩⟩
theorem aat (w:World) (l:List Value) (vl:Value) (hr:iZ 0 vl l w) (hf:y8 l):Calls Tryz.prog 37 #[vl] w fun e w'=>∃v',e=.returned v'/\Below w.heap.size w w'/\iZ w.heap.size v' l w':=by
 obtain ⟨d,hr⟩:=hr;obtain ⟨d',hf⟩:=hf;exact aaq (d+d') w l vl (hr.imp fun b o t _ h=>qq (F:=cf 0 w) cf.up (Nat.le_add_right _ _) h) (Qj (Nat.le_add_left _ _) hf)
def xx (ds:List Value) (t:Value) (w:World) (e:Ending) (w':World):Prop:=∃b:Bool,e=.returned (.bool b)/\Below w.heap.size w w'/\(b=false->DF ds t)
theorem xx.t {ds:List Value} {t:Value} {w w':World} (h:Below w.heap.size w w'):xx ds t w (.returned (.bool true)) w':=⟨true,rfl,h,fun h=>by cases h⟩
theorem xx.f {ds:List Value} {t:Value} {w w':World} (h:Below w.heap.size w w') (h1:DF ds t):xx ds t w (.returned (.bool false)) w':=⟨false,rfl,h,fun _=>h1⟩
theorem iZ.one {B:Nat} {v t:Value} {w:World} (h:iZ B v [t] w):∃b o c,v=.slice (some ⟨b,o,none⟩) 1 c/\∃d,cf B w d b o t:=by
 obtain ⟨d,h⟩:=h;obtain ⟨o,c,rfl,hel⟩:=bz h;obtain ⟨b,off,rfl,hx⟩:=hel 0 t rfl;exact ⟨b,off,c,rfl,d,by simpa using hx⟩
def DY (B p:Nat) (uD:Value) (k n a:Int) (x y:ByteArray) (u uz:Value) (ds:List Value) (t:Value):Nat->Value->World->Prop
 | 0,v,_=>v=.pointer (some ⟨p,0,none⟩)
 | 1,v,_=>v=uD
 | 2,v,w=>iN B v ds w
 | 3,v,_=>v=.pointer (some ⟨p,1,none⟩)
 | 4,v,_=>v=.agg #[.int .i64 k,.string x,.string y,.int .i64 n,u,uz,.int .i64 a]
 | 5,v,w=>∃g,v=.slice (some ⟨g,0,none⟩) 1 1/\w.heap[g]?=some (.cells #[.int .i64 k,.string x,.string y,.int .i64 n,u,uz,.int .i64 a] 27 (0,0))
 | 6,v,w=>iZ B v [t] w
 | 7,v,w=>∃b o,v=.pointer (some ⟨b,o,none⟩)/\∃d,cf B w d b o t
 | 8,v,w=>aW B t v w
 | 9,v,w=>fw B (ds,t) v w
 | _,_,_=>False
theorem fw.uX {B:Nat} {ds:List Value} {t v:Value} {w w':World} (h:fw B (ds,t) v w) (hb:bF B w w'):fw B (ds,t) v w':=by
 obtain ⟨u,k,x,y,n,vu,vz,a,h0,h1,h2⟩:=h;exact ⟨u,k,x,y,n,vu,vz,a,h0,h1.on (C:=B) hb (Nat.le_refl _),h2.on hb (Nat.le_refl _)⟩
theorem DY.on {B p:Nat} {uD:Value} {k n a:Int} {x y:ByteArray} {u uz:Value} {ds:List Value} {t:Value} {i:Nat} {v:Value} {w w':World} (h:DY B p uD k n a x y u uz ds t i v w) (hb:Below w.heap.size w w'):DY B p uD k n a x y u uz ds t i v w':=by
 unfold DY at h ⊢;split at h
 all_goals first|exact h|skip
 ·exact h.on (C:=B) (bF.of hb) (Nat.le_refl _)
 ·obtain ⟨g,h1,h2⟩:=h;exact ⟨g,h1,(hb.block g (Array.getElem?_eq_some_iff.1 h2).1).trans h2⟩
 ·exact h.on (C:=B) (bF.of hb) (Nat.le_refl _)
 ·obtain ⟨b,o,h1,d,h2⟩:=h;exact ⟨b,o,h1,d,h2.but (bF.of hb)⟩
 ·exact h.on (bF.of hb) (Nat.le_refl _)
 ·exact h.uX (bF.of hb)
theorem aau {j:Nat} (h:j<10):j=0\/j=1\/j=2\/j=3\/j=4\/j=5\/j=6\/j=7\/j=8\/j=9:=by omega
theorem aav {l:List Value} (h:l.length=10):∃a0 a1 a2 a3 a4 a5 a6 a7 a8 a9,l = [a0,a1,a2,a3,a4,a5,a6,a7,a8,a9]:=by
 match l,h with
 | [a0,a1,a2,a3,a4,a5,a6,a7,a8,a9],_=>exact ⟨_,_,_,_,_,_,_,_,_,_,rfl⟩
theorem aaw {B:Nat} {w:World} {d b o:Nat} {t:Value} (h:cf B w d b o t):∃k x y n u z a,w.cell? ⟨b,o,none⟩=some (.int .i64 k)/\w.cell? ⟨b,o+1,none⟩=some (.string x)/\w.cell? ⟨b,o+2,none⟩=some (.string y)/\w.cell? ⟨b,o+3,none⟩=some (.int .i64 n)/\w.cell? ⟨b,o+4,none⟩=some u/\w.cell? ⟨b,o+5,none⟩=some z/\w.cell? ⟨b,o+6,none⟩=some (.int .i64 a)/\(∃o4 n4 c4,u=.slice o4 n4 c4)/\(∃o5 n5 c5,z=.slice o5 n5 c5)/\aW B t (.agg #[.int .i64 k,.string x,.string y,.int .i64 n,u,z,.int .i64 a]) w:=by
 cases d with
 | zero=>exact h.elim
 | succ d =>
  obtain ⟨hp,k,x,y,n,es,ps,a,v,u,h0,h1,h2,h3,h4,h5,h6,h7,h8,h9⟩:=h;obtain ⟨o4,c4,e4⟩:=Row.len h8;obtain ⟨o5,c5,e5⟩:=Row.len h9;exact ⟨k,x,y,n,v,u,a,h1,h2,h3,h4,h5,h6,h7,⟨o4,_,c4,e4⟩,⟨o5,_,c5,e5⟩,d,k,x,y,n,es,ps,a,v,u,h0,rfl,h8,h9⟩
end Pz
theorem QP (w:World) (ds:List Value) (t v:Value) (h:fw 0 (ds,t) v w):Calls Tryz.prog 13 #[v] w (xx ds t w):=by
 obtain ⟨uD,k,x,y,n,u,uz,a,rfl,hD,hM⟩:=h;obtain ⟨oD,cD,rfl,_⟩:=bz hD;obtain ⟨d,hM⟩:=hM;obtain ⟨⟨q1,q2⟩,hM'⟩:(u.oneCell'=true/\uz.oneCell'=true)/\iU 0 d w t (.agg #[.int .i64 k,.string x,.string y,.int .i64 n,u,uz,.int .i64 a]):=⟨yO ⟨d,hM⟩,hM⟩;obtain ⟨W,hW⟩:∃W,W=w.alloc (.cells #[.slice oD ds.length cD,.int .i64 k,.string x,.string y,.int .i64 n,u,uz,.int .i64 a] 29):=⟨_,rfl⟩;have hb1:Below w.heap.size w W:=by rw [hW];exact bN _ _
 have HX:Hid (W.heap[w.heap.size]?=some (.cells #[.slice oD ds.length cD,.int .i64 k,.string x,.string y,.int .i64 n,u,uz,.int .i64 a] 29 (0,0))):=ae (by rw [hW];exact heap_alloc_new w _);have HB:=ae hb1;have HD:=ae (aax W ds (.slice oD ds.length cD) (iN.on (C:=0) (B:=0) hD (bF.of hb1) (Nat.le_refl _)));have HE:=ae (fun (u2:World) (hu:Below W.heap.size W u2)=>WJ d u2 t (.agg #[.int .i64 k,.string x,.string y,.int .i64 n,u,uz,.int .i64 a]) (hM.but (bF.of (ax hb1 hu))));have z0:=af HX.out 0 _ rfl;clear hD hM hM' hb1;go_enter Tryz.func13,Tryz.ntmps13;go_upto_region 1 with fail;rw [<- hW];clear hW;go_wp2_with fail;refine Calls.mono (show Calls _ _ _ _ _ from HD.out) ?_;rintro e w1 ⟨b1,rfl,hb1,uo⟩;have HB1:=ae (ax HB.out hb1);have zC:=ae uo;have hx1:=(hb1.block _ (Array.getElem?_eq_some_iff.1 HX.out).1).trans HX.out;have KC:=ae (HE.out w1 hb1);clear uo HD HE z0;have z1:=af hx1 1 _ rfl;have z2:=af hx1 2 _ rfl;have z3:=af hx1 3 _ rfl;have z4:=af hx1 4 _ rfl;have z5:=af hx1 5 _ rfl;have z6:=af hx1 6 _ rfl;have z7:=af hx1 7 _ rfl;clear hx1 hb1 HX;cases b1 with
 | true =>
  clear KC zC;go_wp2;go_ret;exact xx.t HB1.out
 | false =>
  have DG:=ae (zC.out rfl);clear zC;go_wp2_with fail;refine Calls.mono (show Calls _ _ _ _ _ from KC.out) ?_;rintro e w2 ⟨b2,rfl,hb2,DI⟩;have HB2:=ae (ax HB1.out hb2);have AQ:=ae DI;clear hb2 DI KC z1 z2 z3 z4 z5 z6 z7;cases b2 with
  | true =>
   go_wp2;go_ret;exact xx.t HB2.out
  | false =>
   have Gt:=ae (AQ.out rfl);clear AQ;go_wp2;go_ret;exact xx.f HB2.out ⟨DG.out,d,Gt.out⟩
theorem QR (w : World) (ds : List Value) (t v : Value) (h : fw 0 (ds, t) v w) (hf : DF ds t) : Calls Tryz.prog 14 #[v] w fun e w' => ∃ v', e = .returned v' ∧ Below w.heap.size w w' ∧ fw w.heap.size (ds, t) v' w' := by
  obtain ⟨uD, k, x, y, n, u, uz, a, rfl, hD, hM⟩ := h;obtain ⟨oD, cD, rfl, _⟩ := bz hD;obtain ⟨q1, q2⟩ := yO hM;obtain ⟨p, hp⟩ : ∃ p, p = w.heap.size := ⟨_, rfl⟩;obtain ⟨W, hW⟩ : ∃ W, W = (w.alloc (.cells #[.slice oD ds.length cD, .int .i64 k, .string x, .string y, .int .i64 n, u, uz, .int .i64 a] 29)).alloc (.cells eQ 29) := ⟨_, rfl⟩;have hb1 := bN w (.cells #[.slice oD ds.length cD, .int .i64 k, .string x, .string y, .int .i64 n, u, uz, .int .i64 a] 29);have hb2 := bN (w.alloc (.cells #[.slice oD ds.length cD, .int .i64 k, .string x, .string y, .int .i64 n, u, uz, .int .i64 a] 29)) (.cells eQ 29);have hbW : Below w.heap.size w W := by rw [hW]; exact ax hb1 hb2
  have HX : Hid (W.heap[p]? = some (.cells #[.slice oD ds.length cD, .int .i64 k, .string x, .string y, .int .i64 n, u, uz, .int .i64 a] 29 (0, 0))) := ae (by rw [hW, hp, hb2.block _ (by simp)]; exact heap_alloc_new w _);have HY : Hid (W.heap[p + 1]? = some (.cells eQ 29 (0, 0))) := ae (by rw [hW, hp]; exact qc _ _ (by simp));have aT := ae hbW;have Rq : Hid (W.heap.size = p + 2) := ae (by rw [hW, hp]; simp);have Rs := ae (fun (u2 : World) (hu : Below W.heap.size W u2) => YS u2 ds (.slice oD ds.length cD) (iN.on (C := 0) (B := 0) hD (bF.of (ax hbW hu)) (Nat.le_refl _)) hf.1.1 hf.1.2);have vp := ae (fun (u2 : World) (hu : Below W.heap.size W u2) (g : Nat) (hg : u2.heap[g]? = some (.cells #[.int .i64 k, .string x, .string y, .int .i64 n, u, uz, .int .i64 a] 27 (0, 0))) => aat u2 [t] (.slice (some ⟨g, 0, none⟩) 1 1) (by obtain ⟨d, hd⟩ := hM.rC (bF.of (ax hbW hu)); exact row_one hg hd) (aas hf.2));have HP := ae hp;have z0 := af HX.out 0 _ rfl;have z1 := af HX.out 1 _ rfl;have z2 := af HX.out 2 _ rfl;have z3 := af HX.out 3 _ rfl;have z4 := af HX.out 4 _ rfl;have z5 := af HX.out 5 _ rfl;have z6 := af HX.out 6 _ rfl;have z7 := af HX.out 7 _ rfl;clear hD hM hb1 hb2 hbW hf hp;go_enter Tryz.func14, Tryz.ntmps14;go_upto_region 1 with fail;rw [← hW, ← HP.out];clear hW;refine ah.mQ 10 (fun i => 3 + i) (DY W.heap.size p (.slice oD ds.length cD) k n a x y u uz ds t) (by kernel_rfl) (by kernel_rfl) (fun i j h1 h2 h => by have h' : 3 + i = 3 + j := h; omega) (ah.mR (size := 13) (by kernel_rfl)) (fun i v w w' _ h hb => h.on hb) ?hstep ?ze
  case hstep =>
            intro j o a9 u9 hj ho hF hB hd;have f1 : a9.tmps[1]?.getD undef = .pointer (some ⟨p, 0, none⟩) := ah.ak (hF.eval 1 (fun i hi => by show 3 + i ≠ 1; omega));have z0 := ag hB z0;have z1 := ag hB z1;have z2 := ag hB z2;have z3 := ag hB z3;have z4 := ag hB z4;have z5 := ag hB z5;have z6 := ag hB z6;have z7 := ag hB z7;have hcase := aau hj;clear hj;rcases hcase with rfl | rfl | rfl | rfl | rfl | rfl | rfl | rfl | rfl | rfl
            all_goals (simp only [List.getElem?_toArray, List.getElem?_cons_succ, List.getElem?_cons_zero, Option.some.injEq] at ho; subst ho; refine ah.bh fun K hK => ?_)
            · go_simp
              exact hK _ _ ⟨_, rfl, Below.refl _ _, rfl⟩
            · have g0 : a9.tmps[3]?.getD undef = .pointer (some ⟨p, 0, none⟩) := ah.ak (hd 0 (by decide))
              go_simp;exact hK _ _ ⟨_, rfl, Below.refl _ _, rfl⟩
            · have g0 : a9.tmps[4]?.getD undef = .slice oD ds.length cD := ah.ak (hd 1 (by decide))
              have bO := ae hK;clear hK;go_simp;refine (Rs.out _ hB).mono ?_;rintro e w3 ⟨v4, rfl, hb3, hr3⟩;exact bO.out _ _ ⟨_, rfl, hb3, hr3.on (C := u9.heap.size) (fun _ _ _ => rfl) hB.size⟩
            · go_simp
              exact hK _ _ ⟨_, rfl, Below.refl _ _, rfl⟩
            · have g0 : a9.tmps[6]?.getD undef = .pointer (some ⟨p, 1, none⟩) := ah.ak (hd 3 (by decide))
              go_simp;exact hK _ _ ⟨_, rfl, Below.refl _ _, rfl⟩
            · have g0 : a9.tmps[7]?.getD undef = .agg #[.int .i64 k, .string x, .string y, .int .i64 n, u, uz, .int .i64 a] := ah.ak (hd 4 (by decide))
              go_simp;exact hK _ _ ⟨_, rfl, bN _ _, _, rfl, heap_alloc_new _ _⟩
            · obtain ⟨g, hv, hg⟩ := hd 5 (by decide)
              have g0 : a9.tmps[8]?.getD undef = .slice (some ⟨g, 0, none⟩) 1 1 := ah.ak hv;have bO := ae hK;clear hK;go_simp;refine (vp.out _ hB g hg).mono ?_;rintro e w3 ⟨v4, rfl, hb3, hr3⟩;exact bO.out _ _ ⟨_, rfl, hb3, hr3.on (C := u9.heap.size) (fun _ _ _ => rfl) hB.size⟩
            · obtain ⟨b, o, c, hv, hx⟩ := iZ.one (hd 6 (by decide))
              have g0 : a9.tmps[9]?.getD undef = .slice (some ⟨b, o, none⟩) 1 c := ah.ak hv;go_simp;exact hK _ _ ⟨_, rfl, Below.refl _ _, b, o, rfl, hx⟩
            · obtain ⟨b, o, hv, d9, hx⟩ := hd 7 (by decide)
              have g0 : a9.tmps[10]?.getD undef = .pointer (some ⟨b, o, none⟩) := ah.ak hv;obtain ⟨k9, x9, y9, n9, u4, u5, a1, m0, m1, m2, m3, m4, m5, m6, ⟨o4, n4, c4, rfl⟩, ⟨o5, n5, c5, rfl⟩, hex⟩ := aaw hx;go_simp;exact hK _ _ ⟨_, rfl, Below.refl _ _, hex⟩
            · have hrd : iN W.heap.size (a9.eval (.tmp 5)) ds u9 := hd 2 (by decide)
              have g2 : a9.tmps[5]?.getD undef = a9.eval (.tmp 5) := ah.ak rfl;have hre : aW W.heap.size t (a9.eval (.tmp 11)) u9 := hd 8 (by decide);have g3 : a9.tmps[11]?.getD undef = a9.eval (.tmp 11) := ah.ak rfl;generalize a9.eval (.tmp 5) = vD at hrd g2;generalize a9.eval (.tmp 11) = vE at hre g3;obtain ⟨oV, cV, rfl⟩ := Row.len hrd;obtain ⟨k9, x9, y9, n9, u4, u5, a1, rfl, IK, Ad⟩ := hre.val;go_simp;exact hK _ _ ⟨_, rfl, Below.refl _ _, _, k9, x9, y9, n9, u4, u5, a1, rfl, hrd, hre⟩
  case ze =>
    intro a9 u9 hF hB hG;obtain ⟨xl, hxl, rfl, hev⟩ := hF.lit (by simp);obtain ⟨v0, v1, v2, v3, v4, v5, v6, v7, v8, v9, rfl⟩ := aav hxl
    have hpr : fw W.heap.size (ds, t) v9 u9 := by
      have h := hG 9 (by decide);have e : _ = v9 := hev 9 (by decide);rw [← e]; exact h
    have hyb := (hB.block _ (Array.getElem?_eq_some_iff.1 HY.out).1).trans HY.out;have HB2 := ae (ax aT.out hB);clear hev hxl hF hG hB Rs vp z0 z1 z2 z3 z4 z5 z6 z7 HX HY aT;obtain ⟨vD, k9, x9, y9, n9, u4, u5, a1, rfl, hrd, hre⟩ := hpr;obtain ⟨oV, cV, rfl⟩ := Row.len hrd;obtain ⟨o4, o5⟩ := yO hre;simp only [List.take_succ_cons, List.take_zero, List.drop_succ_cons, List.drop_zero, List.cons_append, List.nil_append];have hth := Ah hyb;obtain ⟨W2, aY⟩ : ∃ W2, u9.setCells (p + 1) 0 [.slice oV ds.length cV, .int .i64 k9, .string x9, .string y9, .int .i64 n9, u4, u5, .int .i64 a1] = W2 := ⟨_, rfl⟩;have hbk : W2.heap[p + 1]? = some (.cells #[.slice oV ds.length cV, .int .i64 k9, .string x9, .string y9, .int .i64 n9, u4, u5, .int .i64 a1] 29 (0, 0)) := by rw [← aY]; exact Ai (vs := #[.slice oV ds.length cV, .int .i64 k9, .string x9, .string y9, .int .i64 n9, u4, u5, .int .i64 a1]) hyb rfl
    have hne : ∀ k, k ≠ p + 1 → W2.heap[k]? = u9.heap[k]? := fun k hk => by rw [← aY]; exact uw (p + 1) k hk _ 0 u9
    have hbl : Below (p + 1) u9 W2 := by rw [← aY]; exact lZ (p + 1) (p + 1) (Nat.le_refl _) _ 0 u9 u9 (Below.refl _ u9)
    have Kc : Hid (Below w.heap.size w W2) := ae (HB2.out.trans (hbl.mono (by rw [HP.out]; omega)))
    have yR : Hid (fw w.heap.size (ds, t) (.agg #[.slice oV ds.length cV, .int .i64 k9, .string x9, .string y9, .int .i64 n9, u4, u5, .int .i64 a1]) W2) := ae (by
      have h1 : fw W.heap.size (ds, t) (.agg #[.slice oV ds.length cV, .int .i64 k9, .string x9, .string y9, .int .i64 n9, u4, u5, .int .i64 a1]) u9 := ⟨_, k9, x9, y9, n9, u4, u5, a1, rfl, hrd, hre⟩;exact (h1.uX (fun k hk _ => hne k (by rw [Rq.out] at hk; omega))).low (by rw [Rq.out, HP.out]; omega))
    have ai := ae hbk;clear hrd hre hyb hbk hne hbl HB2;refine wpList_store_mid rfl 29 (.tmp 2) (.tmp 12) rfl (p + 1) 0 #[.slice oV ds.length cV, .int .i64 k9, .string x9, .string y9, .int .i64 n9, u4, u5, .int .i64 a1] rfl rfl hth sW (by simp [Value.oneCell'] at o4 o5 ⊢; exact ⟨o4, o5⟩) ?_;rw [aY];have z0 := af ai.out 0 _ rfl;have z1 := af ai.out 1 _ rfl;have z2 := af ai.out 2 _ rfl;have z3 := af ai.out 3 _ rfl;have z4 := af ai.out 4 _ rfl;have z5 := af ai.out 5 _ rfl;have z6 := af ai.out 6 _ rfl;have z7 := af ai.out 7 _ rfl;go_wp2_with fail;refine bodyPost_ret (v := .agg #[.slice oV ds.length cV, .int .i64 k9, .string x9, .string y9, .int .i64 n9, u4, u5, .int .i64 a1]) (by simp [results, Tryz.results14, go_sem, z0, z1, z2, z3, z4, z5, z6, z7]) rfl ⟨_, rfl, Kc.out, yR.out⟩
namespace Pz
theorem JB (d:Nat) (k:Int) (x y:ByteArray) (n a:Int):fit d (nd k x y n [] [] a):=Js (Nat.zero_le d) ⟨⟨_,_,_,_,_,_,_,rfl⟩,rfl,rfl⟩
theorem JC {d:Nat} {k:Int} {x y:ByteArray} {n:Int} {es ps:List Value} {a:Int} (h1:∀t ∈ es,fit d t) (h2:∀t ∈ ps,fit d t):fit (d+1) (nd k x y n es ps a):=⟨⟨_,_,_,_,_,_,_,rfl⟩,h1,h2⟩
def wK:ByteArray:=⟨#[102,117,110,32,120,32,45,62,32,120,32,43,32,40,49,32,42,32,121,41]⟩
def wL:ByteArray:=⟨#[102,117,110,32,120,32,45,62]⟩
def Xw:Value:=nd 9 ⟨#[43]⟩ e0 0 [nd 1 ⟨#[120]⟩ e0 0 [] [] 9,nd 9 ⟨#[42]⟩ e0 0 [nd 2 e0 e0 1 [] [] 14,nd 1 ⟨#[121]⟩ e0 0 [] [] 18] [] 14] [] 9
def yN:Value:=nd 3 ⟨#[120]⟩ e0 0 [Xw] [] 0
theorem Xx:fit 3 yN:=JC (mem1 (JC (mem2 (JB _ _ _ _ _ _) (JC (mem2 (JB _ _ _ _ _ _) (JB _ _ _ _ _ _)) gX)) gX)) gX
theorem Xy {s:ByteArray} {ds:List Value} {t:Value} {j d:Nat} (h0:(lx s).2.2=0) (h:mM (lx s).1 s.size=.ok ((ds,t),j)) (hd:fit d t) (h1:lY d ds t=false) (h2:rS 256 ds t=false):Says s (.ok (ds,t)):=by
 unfold Says;rw [if_neg (by simpa using h0),h];exact ⟨d,hd,by unfold pq;rw [if_neg (by simp [h1]),if_neg (by simp [h2])]⟩
theorem Xz {s:ByteArray} {z:Int} (h0:(lx s).2.2=0) (h:mM (lx s).1 s.size=.error z):Says s (.error (z,120)):=by
 unfold Says;rw [if_neg (by simpa using h0),h]
def O6:List Tk:=[⟨5,⟨#[102,117,110]⟩,0,0⟩,⟨1,⟨#[120]⟩,0,4⟩,⟨6,⟨#[45,62]⟩,0,6⟩,⟨1,⟨#[120]⟩,0,9⟩,⟨6,⟨#[43]⟩,0,11⟩,⟨6,⟨#[40]⟩,0,13⟩,⟨4,⟨#[]⟩,1,14⟩,⟨6,⟨#[42]⟩,0,16⟩,⟨1,⟨#[121]⟩,0,18⟩,⟨6,⟨#[41]⟩,0,19⟩]
def O7:List Tk:=[⟨5,⟨#[102,117,110]⟩,0,0⟩,⟨1,⟨#[120]⟩,0,4⟩,⟨6,⟨#[45,62]⟩,0,6⟩]
theorem O8:lx wK=(O6,0,0):=by kernel_rfl
theorem O9:lx wL=(O7,0,0):=by kernel_rfl
theorem XA:mM O6 20=.ok (([],yN),10):=by kernel_rfl
theorem XB:mM O7 8=.error 8:=by kernel_rfl
theorem XC:(wK.size:Int)=20:=by kernel_rfl
theorem XD:(wL.size:Int)=8:=by kernel_rfl
theorem XE:lY 3 [] yN=false:=by kernel_rfl
theorem XF:rS 256 [] yN=false:=by kernel_rfl
theorem XG:Says wK (.ok ([],yN)) :=
 have h0:(lx wK).2.2=0:=by rw [O8]
 have h1:mM (lx wK).1 wK.size=.ok (([],yN),10):=by rw [O8,XC];exact XA
 @Xy wK [] yN 10 3 h0 h1 Xx XE XF
theorem XH:Says wL (.error (8,120)) :=
 have h0:(lx wL).2.2=0:=by rw [O9]
 have h1:mM (lx wL).1 wL.size=.error 8:=by rw [O9,XD];exact XB
 @Xz wL 8 h0 h1
end Pz
theorem XI (w:World) (fC:WL w):Calls Tryz.prog 9 #[] w fun e w'=>e=.returned (.bool true)/\Below w.heap.size w w':=by
 have H1:=ae (Pd wK w fC);have H2:=ae (fun (u:World) (hb:Below w.heap.size w u)=>Pd wL u (fC.on hb));clear fC;go_enter Tryz.func9,Tryz.ntmps9;go_wp2_with fail;refine Calls.mono (show Calls _ _ _ _ _ from H1.out) ?_;rintro e u ⟨R,hS,hb,hR⟩;obtain rfl:=Says.one hS XG;obtain ⟨v,rfl,hpr⟩:=hR;obtain ⟨u0,k0,x0,y0,n0,vu,vz,a0,rfl,hD,hM⟩:=hpr;obtain ⟨q1,q2⟩:=yO hM;have q0:u0.oneCell'=true:=by obtain ⟨oD,cD,rfl,_⟩:=bz hD;rfl
 obtain ⟨d,k1,x1,y1,n1,es1,fu,a1,u1,z1,h0,h1,hrow,_⟩:=hM;obtain ⟨rfl,rfl,rfl,rfl,rfl,rfl,rfl⟩:=CH h0;injection h1 with h1;simp only [Array.mk.injEq,List.cons.injEq,Value.int.injEq,Value.string.injEq,true_and,and_true] at h1;obtain ⟨rfl,rfl,rfl,rfl,rfl,rfl,rfl⟩:=h1;obtain ⟨g,off,cc,rfl,hel⟩:=Row.some hrow (by simp);have hC:=hel 0 _ rfl;rw [Nat.zero_mul,Nat.add_zero] at hC;obtain ⟨k2,x2,y2,n2,u2,z2,a2,e1,e2,e3,e4,e5,e6,e7,o1,o2,d3,hE⟩:=JD hC;obtain ⟨k3,x3,y3,n3,es3,ps3,a3,u3,z3,h3,h4,_⟩:=hE;obtain ⟨rfl,rfl,rfl,rfl,rfl,rfl,rfl⟩:=CH h3;injection h4 with h4;simp only [Array.mk.injEq,List.cons.injEq,Value.int.injEq,Value.string.injEq,true_and,and_true] at h4;obtain ⟨rfl,rfl,rfl,rfl,rfl,rfl,rfl⟩:=h4;obtain ⟨W,hW,hth,hbk,hbw⟩:=jk u 29 eQ #[u0,.int .i64 3,.string ⟨#[120]⟩,.string e0,.int .i64 0,.slice (some ⟨g,off,none⟩) 1 cc,vz,.int .i64 0] rfl;have HW:=ae hW;have az:=ae hth;have ai:=ae hbk;have aT:=ae (ax hb hbw);have yn:=ae (H2.out W aT.out);have iK:=ae (ag hbw e2);have Pe:=ae (ag hbw e7);clear hW hth hbk hbw hb hS H1 H2 hD hrow hel hC e1 e2 e3 e4 e5 e6 e7 o1 o2 h0 h3;go_wp2_with (refine wpList_store_mid rfl 29 (.tmp 1) (.tmp 9) rfl u.heap.size 0 #[u0,.int .i64 3,.string ⟨#[120]⟩,.string e0,.int .i64 0,.slice (some ⟨g,off,none⟩) 1 cc,vz,.int .i64 0] rfl rfl az.out sW (by simp [Value.oneCell'] at q0 q1 q2 ⊢;exact ⟨q0,q2⟩) ?_;rw [HW.out]);refine Calls.mono (show Calls _ _ _ _ _ from yn.out) ?_;rintro e w2 ⟨R2,jr,hb2,jG⟩;obtain rfl:=Says.one jr XH;have XJ:e=.returned (.tuple #[.agg eQ,.int .i64 8,.int .i64 120]):=jG;subst XJ;obtain ⟨W2,aY,jy,hbk2,jH⟩:=jk w2 29 eQ eQ rfl;have HW2:=ae aY;have dW:=ae jy;have hbx:=ax hb2 jH;have HB2:=ae (ax aT.out hbx);have hx:=(hbx.block _ (Array.getElem?_eq_some_iff.1 ai.out).1).trans ai.out;have r1:=af hx 1 _ rfl;have r5:=af hx 5 _ rfl;have e2:=ag hbx iK.out;have e7:=ag hbx Pe.out;clear aY jy hbk2 jH hb2 hbx hx ai iK Pe yn jr jG aT HW az;go_wp2_with (refine wpList_store_mid rfl 29 (.tmp 4) (.tmp 14) rfl w2.heap.size 0 eQ rfl rfl dW.out sW (by simp [Value.oneCell']) ?_;rw [HW2.out]);go_ret;exact ⟨rfl,HB2.out⟩
namespace Pz
theorem ZF (d:Nat):nX false d=wC d:=by
 funext a b
 unfold nX wC;simp
theorem ZG {m dt:Nat} {ds ks:List Value} {t s:Value}:Dz false m dt ds ks t s=wD m dt ds ks t s:=by
 unfold Dz wD;rw [ZF]
def DC (ds ks:List Value) (t s va vb:Value) (A:Bool):Nat->Value->World->Prop
 | 0,v,_=>v=va
 | 1,v,w=>fw 0 (ds,t) v w
 | 2,v,_=>v=vb
 | 3,v,w=>fw 0 (ks,s) v w
 | 4,v,_=>v=.bool A
 | 5,v,_=>v=va
 | 6,v,_=>v=vb
 | 7,v,_=>v=.bool A
 | 10,v,_=>v=va
 | 11,v,w=>fw 0 (ds,t) v w
 | 12,v,_=>v=va
 | 13,v,w=>fw 0 (ds,t) v w
 | _,v,_=>v=.bool true
theorem DC.on {ds ks:List Value} {t s va vb:Value} {A:Bool} {i:Nat} {v:Value} {w w':World} (h:DC ds ks t s va vb A i v w) (hb:Below w.heap.size w w'):DC ds ks t s va vb A i v w':=by
 unfold DC at h ⊢;split at h
 all_goals first|exact h|exact h.uX (bF.of hb)
theorem ZH {j:Nat} (h:j<20):j=0\/j=1\/j=2\/j=3\/j=4\/j=5\/j=6\/j=7\/j=8\/j=9\/j=10\/j=11\/j=12\/j=13\/j=14\/j=15\/j=16\/j=17\/j=18\/j=19:=by omega
theorem ZI (A:Bool):(A == A)=true:=by cases A<;>rfl
end Pz
theorem Zf (ds ks:List Value) (t s va vb:Value) (w:World) (fC:WL w) (h:fw 0 (ds,t) va w) (h2:fw 0 (ks,s) vb w):Calls Tryz.prog 5 #[va,vb] w fun e w'=>e=.returned (.bool true)/\Below w.heap.size w w':=by
 have h':=h;have h2':=h2;obtain ⟨uD,k,x,y,n,u,uz,a,rfl,hD,hM⟩:=h;obtain ⟨jY,k2,x2,y2,n2,u2,jv,a2,rfl,hD2,hM2⟩:=h2;obtain ⟨dt,DD⟩:=WQ hD;obtain ⟨d,J9⟩:=hM;have rA:=J9.fit
 have ZJ:(uD.oneCell'=true/\u.oneCell'=true/\uz.oneCell'=true):=by
  obtain ⟨q1,q2⟩:=yO ⟨d,J9⟩;obtain ⟨oD,cD,rfl,_⟩:=bz hD;exact ⟨rfl,q1,q2⟩
 have ZK:(jY.oneCell'=true/\u2.oneCell'=true/\jv.oneCell'=true):=by
  obtain ⟨q1,q2⟩:=yO hM2;obtain ⟨oD,cD,rfl,_⟩:=bz hD2;exact ⟨rfl,q1,q2⟩
 obtain ⟨o1,o2,o3⟩:=ZJ;obtain ⟨o4,o5,o6⟩:=ZK;obtain ⟨p,hp⟩:∃p,p=w.heap.size:=⟨_,rfl⟩;obtain ⟨W,hW⟩:∃W,W=(w.alloc (.cells #[uD,.int .i64 k,.string x,.string y,.int .i64 n,u,uz,.int .i64 a] 29)).alloc (.cells #[jY,.int .i64 k2,.string x2,.string y2,.int .i64 n2,u2,jv,.int .i64 a2] 29):=⟨_,rfl⟩;have hb1:=bN w (.cells #[uD,.int .i64 k,.string x,.string y,.int .i64 n,u,uz,.int .i64 a] 29);have hb2:=bN (w.alloc (.cells #[uD,.int .i64 k,.string x,.string y,.int .i64 n,u,uz,.int .i64 a] 29)) (.cells #[jY,.int .i64 k2,.string x2,.string y2,.int .i64 n2,u2,jv,.int .i64 a2] 29);have hbW:Below w.heap.size w W:=by rw [hW];exact ax hb1 hb2
 have HX:Hid (W.heap[p]?=some (.cells #[uD,.int .i64 k,.string x,.string y,.int .i64 n,u,uz,.int .i64 a] 29 (0,0))):=ae (by rw [hW,hp,hb2.block _ (by simp)];exact heap_alloc_new w _);have HY:Hid (W.heap[p+1]?=some (.cells #[jY,.int .i64 k2,.string x2,.string y2,.int .i64 n2,u2,jv,.int .i64 a2] 29 (0,0))):=ae (by rw [hW,hp];exact qc _ _ (by simp));have aT:=ae hbW;have QO:=ae (QP W ds t (.agg #[uD,.int .i64 k,.string x,.string y,.int .i64 n,u,uz,.int .i64 a]) (h'.uX (bF.of hbW)));have QQ:=ae (fun (w1:World) (hw:Below W.heap.size W w1)=>QP w1 ks s (.agg #[jY,.int .i64 k2,.string x2,.string y2,.int .i64 n2,u2,jv,.int .i64 a2]) (h2'.uX (bF.of (ax hbW hw))));have uY:=ae (fun (w1:World) (hw:Below w.heap.size w w1)=>XI w1 (fC.on hw));have Gg:=ae (fun (hf:DF ds t) (w1:World) (hw:Below W.heap.size W w1)=>QR w1 ds t (.agg #[uD,.int .i64 k,.string x,.string y,.int .i64 n,u,uz,.int .i64 a]) (h'.uX (bF.of (ax hbW hw))) hf);have Gh:=ae (fun (hf:DF ks s) (w1:World) (hw:Below W.heap.size W w1)=>QR w1 ks s (.agg #[jY,.int .i64 k2,.string x2,.string y2,.int .i64 n2,u2,jv,.int .i64 a2]) (h2'.uX (bF.of (ax hbW hw))) hf);have aB:=ae (fun (v z:Value) (w1:World) (ha:fw 0 (ds,t) v w1) (hb:fw 0 (ks,s) z w1)=>N9 d dt ds ks t s v z w1 rA DD ha hb);have Gi:=ae (fun (v z:Value) (w1:World) (ha:fw 0 (ds,t) v w1) (hb:fw 0 (ds,t) z w1)=>N9 d dt ds ds t t v z w1 rA DD ha hb);rw [Wn rA DD] at Gi;have zo:=ae (fun (w1:World) (hw:Below W.heap.size W w1)=>ZL false d dt ds ks t s (.agg #[uD,.int .i64 k,.string x,.string y,.int .i64 n,u,uz,.int .i64 a]) (.agg #[jY,.int .i64 k2,.string x2,.string y2,.int .i64 n2,u2,jv,.int .i64 a2]) w1 rA DD (h'.uX (bF.of (ax hbW hw))) (h2'.uX (bF.of (ax hbW hw))));rw [ZG] at zo;generalize wD d dt ds ks t s=A at aB zo;have HP:=ae hp;have Gj:=af HX.out 0 _ rfl;have Gl:=af HX.out 1 _ rfl;have Gm:=af HX.out 2 _ rfl;have Gn:=af HX.out 3 _ rfl;have Gp:=af HX.out 4 _ rfl;have Gq:=af HX.out 5 _ rfl;have Gr:=af HX.out 6 _ rfl;have Gs:=af HX.out 7 _ rfl;have zq:=af HY.out 0 _ rfl;have zr:=af HY.out 1 _ rfl;have zt:=af HY.out 2 _ rfl;have zu:=af HY.out 3 _ rfl;have zw:=af HY.out 4 _ rfl;have zx:=af HY.out 5 _ rfl;have zy:=af HY.out 6 _ rfl;have zB:=af HY.out 7 _ rfl;clear h' h2' hD hD2 hM2 J9 DD rA hb1 hb2 hbW hp;go_enter Tryz.func5,Tryz.ntmps5;go_upto_region 1 with fail;rw [<- hW,<- HP.out];clear hW;go_wp2_with fail;refine Calls.mono (show Calls _ _ _ _ _ from QO.out) ?_;rintro e w1 ⟨b1,rfl,hb1,uo⟩;have zC:=ae uo;have HB1:=ae hb1;have Ka:=ae (QQ.out w1 hb1);have rW:=ae ((hb1.block _ (Array.getElem?_eq_some_iff.1 HY.out).1).trans HY.out);have bB:=ae ((hb1.block _ (Array.getElem?_eq_some_iff.1 HX.out).1).trans HX.out);clear hb1 uo QO QQ Gj Gl Gm Gn Gp Gq Gr Gs zq zr zt zu zw zx zy zB;have zq:=af rW.out 0 _ rfl;have zr:=af rW.out 1 _ rfl;have zt:=af rW.out 2 _ rfl;have zu:=af rW.out 3 _ rfl;have zw:=af rW.out 4 _ rfl;have zx:=af rW.out 5 _ rfl;have zy:=af rW.out 6 _ rfl;have zB:=af rW.out 7 _ rfl;cases b1 with
 | true =>
  have HW1:=ae (uY.out w1 (ax aT.out HB1.out));clear zC Ka Gg Gh aB Gi zo HX HY bB;go_wp2_with fail;refine Calls.mono (show Calls _ _ _ _ _ from HW1.out) ?_;rintro e w2 ⟨rfl,hb2⟩;have HB2:=ae (ax (ax aT.out HB1.out) hb2);clear hb2 HW1 uY zq zr zt zu zw zx zy zB;go_wp2;go_ret;exact ⟨rfl,HB2.out⟩
 | false =>
  have DG:=ae (zC.out rfl);clear zC;go_wp2_with fail;refine Calls.mono (show Calls _ _ _ _ _ from Ka.out) ?_;rintro e w2 ⟨b2,rfl,hb2,DI⟩;have AQ:=ae DI;have HB2:=ae (ax HB1.out hb2);have tz:=ae ((hb2.block _ (Array.getElem?_eq_some_iff.1 rW.out).1).trans rW.out);have bb:=ae ((hb2.block _ (Array.getElem?_eq_some_iff.1 bB.out).1).trans bB.out);clear hb2 DI Ka zq zr zt zu zw zx zy zB HX HY bB rW;cases b2 with
  | true =>
   have HW1:=ae (uY.out w2 (ax aT.out HB2.out));clear DG AQ Gg Gh aB Gi zo bb tz;go_wp2_with fail;refine Calls.mono (show Calls _ _ _ _ _ from HW1.out) ?_;rintro e w3 ⟨rfl,hb3⟩;have aD:=ae (ax (ax aT.out HB2.out) hb3);clear hb3 HW1 uY;go_wp2;go_ret;exact ⟨rfl,aD.out⟩
  | false =>
   have Gt:=ae (AQ.out rfl);clear AQ;have Kb:=ae (fun (w3:World) (hw:Below w2.heap.size w2 w3)=>Gg.out DG.out w3 (ax HB2.out hw));have ZM:=ae (fun (w3:World) (hw:Below w2.heap.size w2 w3)=>Gh.out Gt.out w3 (ax HB2.out hw));have zo:=ae (fun (w3:World) (hw:Below w2.heap.size w2 w3)=>zo.out w3 (ax HB2.out hw));have uY:=ae (fun (w3:World) (hw:Below w2.heap.size w2 w3)=>uY.out w3 (ax (ax aT.out HB2.out) hw));have Gj:=af bb.out 0 _ rfl;have Gl:=af bb.out 1 _ rfl;have Gm:=af bb.out 2 _ rfl;have Gn:=af bb.out 3 _ rfl;have Gp:=af bb.out 4 _ rfl;have Gq:=af bb.out 5 _ rfl;have Gr:=af bb.out 6 _ rfl;have Gs:=af bb.out 7 _ rfl;have zq:=af tz.out 0 _ rfl;have zr:=af tz.out 1 _ rfl;have zt:=af tz.out 2 _ rfl;have zu:=af tz.out 3 _ rfl;have zw:=af tz.out 4 _ rfl;have zx:=af tz.out 5 _ rfl;have zy:=af tz.out 6 _ rfl;have zB:=af tz.out 7 _ rfl;clear Gg Gh DG Gt bb tz;go_upto_region 3 with fail;refine ah.QS 20 (fun i=>if i<19 then 12+i else 4) (DC ds ks t s (.agg #[uD,.int .i64 k,.string x,.string y,.int .i64 n,u,uz,.int .i64 a]) (.agg #[jY,.int .i64 k2,.string x2,.string y2,.int .i64 n2,u2,jv,.int .i64 a2]) A) (by kernel_rfl) (by kernel_rfl) (fun i j h1 h2 h=>by have h':(if i<19 then 12+i else 4)=(if j<19 then 12+j else 4):=h;split at h'<;>split at h'<;>omega) (ah.QT (n:=20) (dst:=fun i=>if i<19 then 12+i else 4) (size:=31) (by kernel_rfl)) (fun i v w w' _ h hb=>h.on hb) ?hstep ?hend
   case hstep =>
    intro j o a9 u9 hj ho hF hB hd;have f2:a9.tmps[2]?.getD undef=.pointer (some ⟨p,0,none⟩):=ah.ak (hF.eval 2 (fun i hi=>by show (if i<19 then 12+i else 4)≠2;split<;>omega))
    have f3:a9.tmps[3]?.getD undef=.pointer (some ⟨p+1,0,none⟩):=ah.ak (hF.eval 3 (fun i hi=>by show (if i<19 then 12+i else 4)≠3;split<;>omega))
    have Gj:=ag hB Gj;have Gl:=ag hB Gl;have Gm:=ag hB Gm;have Gn:=ag hB Gn;have Gp:=ag hB Gp;have Gq:=ag hB Gq;have Gr:=ag hB Gr;have Gs:=ag hB Gs;have zq:=ag hB zq;have zr:=ag hB zr;have zt:=ag hB zt;have zu:=ag hB zu;have zw:=ag hB zw;have zx:=ag hB zx;have zy:=ag hB zy;have zB:=ag hB zB;have hcase:=ZH hj;clear hj;rcases hcase with rfl|rfl|rfl|rfl|rfl|rfl|rfl|rfl|rfl|rfl|rfl|rfl|rfl|rfl|rfl|rfl|rfl|rfl|rfl|rfl
    all_goals (simp only [List.getElem?_toArray,List.getElem?_cons_succ,List.getElem?_cons_zero,Option.some.injEq] at ho;subst ho)
    ·refine ah.Does.go rfl (ah.bh fun K hK=>?_);go_simp;exact hK _ _ ⟨_,rfl,Below.refl _ _,rfl⟩
    ·refine ah.Does.go rfl (ah.bh fun K hK=>?_);have g0:a9.tmps[12]?.getD undef=.agg #[uD,.int .i64 k,.string x,.string y,.int .i64 n,u,uz,.int .i64 a]:=ah.ak (hd 0 (by decide));have bO:=ae hK;clear hK;go_simp;refine (Kb.out _ hB).mono ?_;rintro e w3 ⟨v4,rfl,hb3,hr3⟩;exact bO.out _ _ ⟨_,rfl,hb3,hr3.low (Nat.zero_le _)⟩
    ·refine ah.Does.go rfl (ah.bh fun K hK=>?_);go_simp;exact hK _ _ ⟨_,rfl,Below.refl _ _,rfl⟩
    ·refine ah.Does.go rfl (ah.bh fun K hK=>?_);have g0:a9.tmps[14]?.getD undef=.agg #[jY,.int .i64 k2,.string x2,.string y2,.int .i64 n2,u2,jv,.int .i64 a2]:=ah.ak (hd 2 (by decide));have bO:=ae hK;clear hK;go_simp;refine (ZM.out _ hB).mono ?_;rintro e w3 ⟨v4,rfl,hb3,hr3⟩;exact bO.out _ _ ⟨_,rfl,hb3,hr3.low (Nat.zero_le _)⟩
    ·refine ah.Does.go rfl (ah.bh fun K hK=>?_);have hp0:fw 0 (ds,t) (a9.eval (.tmp 13)) u9:=hd 1 (by decide);have g0:a9.tmps[13]?.getD undef=a9.eval (.tmp 13):=ah.ak rfl;generalize a9.eval (.tmp 13)=ZN at hp0 g0;have hp1:fw 0 (ks,s) (a9.eval (.tmp 15)) u9:=hd 3 (by decide);have g1:a9.tmps[15]?.getD undef=a9.eval (.tmp 15):=ah.ak rfl;generalize a9.eval (.tmp 15)=ZO at hp1 g1;have bO:=ae hK;clear hK;go_simp;refine (aB.out _ _ u9 hp0 hp1).mono ?_;rintro e w3 ⟨rfl,hb3⟩;exact bO.out _ _ ⟨_,rfl,hb3,rfl⟩
    ·refine ah.Does.go rfl (ah.bh fun K hK=>?_);go_simp;exact hK _ _ ⟨_,rfl,Below.refl _ _,rfl⟩
    ·refine ah.Does.go rfl (ah.bh fun K hK=>?_);go_simp;exact hK _ _ ⟨_,rfl,Below.refl _ _,rfl⟩
    ·refine ah.Does.go rfl (ah.bh fun K hK=>?_);have g0:a9.tmps[17]?.getD undef=.agg #[uD,.int .i64 k,.string x,.string y,.int .i64 n,u,uz,.int .i64 a]:=ah.ak (hd 5 (by decide));have g1:a9.tmps[18]?.getD undef=.agg #[jY,.int .i64 k2,.string x2,.string y2,.int .i64 n2,u2,jv,.int .i64 a2]:=ah.ak (hd 6 (by decide));have bO:=ae hK;clear hK;go_simp;refine (zo.out _ hB).mono ?_;rintro e w3 ⟨rfl,hb3⟩;exact bO.out _ _ ⟨_,rfl,hb3,rfl⟩
    ·refine ah.Does.go rfl (ah.bh fun K hK=>?_);have g0:a9.tmps[16]?.getD undef=.bool A:=ah.ak (hd 4 (by decide));have g1:a9.tmps[19]?.getD undef=.bool A:=ah.ak (hd 7 (by decide));have hAA:=ZI A;go_simp;exact hK _ _ ⟨_,rfl,Below.refl _ _,(by first|rfl|(show _=Value.bool true;simp))⟩
    ·refine ah.Does.go rfl (ah.bh fun K hK=>?_);have g0:a9.tmps[20]?.getD undef=.bool true:=ah.ak (hd 8 (by decide));go_simp;exact hK _ _ ⟨_,rfl,Below.refl _ _,rfl⟩
    ·refine ah.Does.wanted rfl rfl rfl (hd 9 (by decide)) (ah.bh fun K hK=>?_);go_simp;exact hK _ _ ⟨_,rfl,Below.refl _ _,rfl⟩
    ·refine ah.Does.wanted rfl rfl rfl (hd 9 (by decide)) (ah.bh fun K hK=>?_);have g0:a9.tmps[22]?.getD undef=.agg #[uD,.int .i64 k,.string x,.string y,.int .i64 n,u,uz,.int .i64 a]:=ah.ak (hd 10 (by decide));have bO:=ae hK;clear hK;go_simp;refine (Kb.out _ hB).mono ?_;rintro e w3 ⟨v4,rfl,hb3,hr3⟩;exact bO.out _ _ ⟨_,rfl,hb3,hr3.low (Nat.zero_le _)⟩
    ·refine ah.Does.wanted rfl rfl rfl (hd 9 (by decide)) (ah.bh fun K hK=>?_);go_simp;exact hK _ _ ⟨_,rfl,Below.refl _ _,rfl⟩
    ·refine ah.Does.wanted rfl rfl rfl (hd 9 (by decide)) (ah.bh fun K hK=>?_);have g0:a9.tmps[24]?.getD undef=.agg #[uD,.int .i64 k,.string x,.string y,.int .i64 n,u,uz,.int .i64 a]:=ah.ak (hd 12 (by decide));have bO:=ae hK;clear hK;go_simp;refine (Kb.out _ hB).mono ?_;rintro e w3 ⟨v4,rfl,hb3,hr3⟩;exact bO.out _ _ ⟨_,rfl,hb3,hr3.low (Nat.zero_le _)⟩
    ·refine ah.Does.wanted rfl rfl rfl (hd 9 (by decide)) (ah.bh fun K hK=>?_);have hp0:fw 0 (ds,t) (a9.eval (.tmp 23)) u9:=hd 11 (by decide);have g0:a9.tmps[23]?.getD undef=a9.eval (.tmp 23):=ah.ak rfl;generalize a9.eval (.tmp 23)=ZN at hp0 g0;have hp1:fw 0 (ds,t) (a9.eval (.tmp 25)) u9:=hd 13 (by decide);have g1:a9.tmps[25]?.getD undef=a9.eval (.tmp 25):=ah.ak rfl;generalize a9.eval (.tmp 25)=ZO at hp1 g1;have bO:=ae hK;clear hK;go_simp;refine (Gi.out _ _ u9 hp0 hp1).mono ?_;rintro e w3 ⟨rfl,hb3⟩;exact bO.out _ _ ⟨_,rfl,hb3,rfl⟩
    ·refine ah.Does.go rfl (ah.bh fun K hK=>?_);have g0:a9.tmps[21]?.getD undef=.bool true:=ah.ak (hd 9 (by decide));have g1:a9.tmps[26]?.getD undef=.bool true:=ah.ak (hd 14 (by decide));go_simp;exact hK _ _ ⟨_,rfl,Below.refl _ _,rfl⟩
    ·refine ah.Does.go rfl (ah.bh fun K hK=>?_);have g0:a9.tmps[27]?.getD undef=.bool true:=ah.ak (hd 15 (by decide));go_simp;exact hK _ _ ⟨_,rfl,Below.refl _ _,rfl⟩
    ·refine ah.Does.wanted rfl rfl rfl (hd 16 (by decide)) (ah.bh fun K hK=>?_);have bO:=ae hK;clear hK;go_simp;refine (uY.out _ hB).mono ?_;rintro e w3 ⟨rfl,hb3⟩;exact bO.out _ _ ⟨_,rfl,hb3,rfl⟩
    ·refine ah.Does.go rfl (ah.bh fun K hK=>?_);have g0:a9.tmps[28]?.getD undef=.bool true:=ah.ak (hd 16 (by decide));have g1:a9.tmps[29]?.getD undef=.bool true:=ah.ak (hd 17 (by decide));go_simp;exact hK _ _ ⟨_,rfl,Below.refl _ _,rfl⟩
    ·refine ah.Does.go rfl (ah.bh fun K hK=>?_);have g0:a9.tmps[30]?.getD undef=.bool true:=ah.ak (hd 18 (by decide));go_simp;exact hK _ _ ⟨_,rfl,Below.refl _ _,rfl⟩
   case hend =>
    intro a9 u9 hF hB hG;have h4:a9.eval (.tmp 4)=.bool true:=hG 19 (by decide);have Kc:=ae (ax (ax aT.out HB2.out) hB);go_wp2_with fail;refine bodyPost_ret (v:=.bool true) ((results_tmp rfl _ _ _).trans (congrArg (fun v=>Result.ok v u9) h4)) hF.defers ⟨rfl,Kc.out⟩
end Go.Proofs.YtkdbgopgjbfhbaaGreatDoor
