/- Texts that the claim needs. -/
import Derived.Test.YtmfcojpjpgldhaaGreatDoorQEBy23
import Derived.Test.YtmfcojpjpgldhaaGreatDoorQEBy29
namespace Go.Proofs.YtmfcojpjpgldhaaGreatDoor
open Go.RowKit aA Enc Go.Lib Go.Proofs.Tryz
set_option linter.unusedVariables false
set_option maxRecDepth 100000
set_option maxHeartbeats 8000000
theorem Zu {I:World->Prop} (C:dB I) (w0:World) (hI:I w0) (p:Nat) (c:Nat->Value) (v:Value) (bs:List Int) (d:Nat) (x:gy d) (qW qF:Nat) (lv bv:Value) (w:World) (h:WS w0 p c v bs w) (hL:Ints w0 lv x.locals) (hB:At w0 d bv x.body)
  (hW:Bx w qW 58 #[.pointer (some ⟨p,0,none⟩)]) (hF:Bx w qF 45 #[.int .i64 x.type,lv,bv]) (n1:qW≠p) (n2:qF≠p) (n3:some qW≠v.ownBlock) (n4:some qF≠v.ownBlock)
  (hR:Rg d x.body) (hll:x.locals.length<=1000000) (hlen:bs.length+(gG x).length<=38900000000000) :
  Calls prog 82 #[.pointer (some ⟨qW,0,none⟩),.pointer (some ⟨qF,0,none⟩)] w (DoesA w0 p c v w bs (gG x)):=by
 have hlen':bs.length+(uj x.locals).length+(aQ d x.body).length+1<=38900000000000:=by
  unfold gG at hlen;simp only [aB,bI,bP] at hlen;omega
 have kw:=hW.cell 0 _ rfl;have kf:=hF.cell 1 _ rfl;have iY:=aa (RY w0 p c v bs lv x.locals w h hL hll (by omega));have HH:=aa (⟨hW,hF,n1,n2,n3,n4⟩:Bx w qW 58 #[.pointer (some ⟨p,0,none⟩)]/\Bx w qF 45 #[.int .i64 x.type,lv,bv]/\qW≠p/\qF≠p/\some qW≠v.ownBlock/\some qF≠v.ownBlock);have HX:=aa (⟨hI,hB,hR,hlen'⟩:I w0/\At w0 d bv x.body/\Rg d x.body/\bs.length+(uj x.locals).length+(aQ d x.body).length+1<=38900000000000);clear h hL hB hW hF hR hlen hlen' hI n1 n2 n3 n4;go_enter func82,ntmps82;go_wp2_with fail;refine iY.out.mono ?_;rintro e w1 ⟨v1,rfl,h1,k1⟩;obtain ⟨b1,_⟩:=k1.bx HH.out.1 HH.out.2.2.1 HH.out.2.2.2.2.1;obtain ⟨b2,_⟩:=k1.bx HH.out.2.1 HH.out.2.2.2.1 HH.out.2.2.2.2.2;have Zv:=b1.cell 0 _ rfl;have Ic:=b2.cell 2 _ rfl;have aO:=aa k1;have cz:=aa (Y4 C w0 HX.out.1 p c d bv x.body v1 (bs++uj x.locals) w1 h1 HX.out.2.1 HX.out.2.2.1 (by have:=HX.out.2.2.2;rw [aB];omega));clear b1 b2 k1 h1 kw kf iY HH;go_wp2_with fail;refine cz.out.mono ?_;rintro e w2 ⟨v2,b2,rfl,h2,k2,a2,l2⟩;have HS:=aa h2;have aW:=aa (aO.out.trans k2)
 have HF:Hid (So bs (gG x) b2):=aa (by
  have h3:=((So.refl bs).app (uj x.locals));rw [ed] at h3;exact h3.adds a2 l2)
 clear h2 k2 a2 l2 cz Zv Ic;go_wp2;go_end0;exact ⟨_,_,rfl,HS.out,aW.out,HF.out.1,HF.out.2⟩
theorem Xk {I:World->Prop} (C:dB I) (w0:World) (hI:I w0) (p:Nat) (c:Nat->Value) (v:Value) (bs:List Int) (d:Nat) (m:Mod d) (w:World) (h:WS w0 p c v bs w) (hM:da w0 d (c 0) (c 1) (c 2) (c 3) (c 4) (c 5) (c 6) (c 7) (c 8) (c 9) m) (i:Nat) (x:gy d) (hx:m.funcs[i]?=some x) (hR:Rg d x.body) (hll:x.locals.length<=1000000) (hlen:bs.length+(gG x).length<=38900000000000) :
  Calls prog 43 #[.pointer (some ⟨p,0,none⟩),.int .i64 (i:Nat)] w (DoesA w0 p c v w bs (dW (gG x))):=by
 have AL:∀(fn:Fn) (first cap:Array Value) (w:World),(Instr.makeFunc fn first cap).run prog w=.ok (.func fn first cap) w:=λ_ _ _ _=>rfl;have hi:i<m.funcs.length:=(fZ.1 hx).1;obtain ⟨b1,aJ,gb,hcv,fO⟩:=Row.some hM.funcs (by omega);obtain ⟨bN,⟨lv,cF,al⟩,⟨bv,dn,ab⟩⟩:=fO i x hx;have hu:Below w.heap.size w (w.alloc (.cells #[.pointer (some ⟨p,0,none⟩)] 58)):=aU w _;obtain ⟨u1,hu1⟩:∃u1,u1=w.alloc (.cells #[.pointer (some ⟨p,0,none⟩)] 58):=⟨_,rfl⟩;rw [<- hu1] at hu;have hs1:=h.on hu;have kc:=hs1.rJ 2 (by omega);rw [hcv] at kc;have lu:=aj hs1.below bN;have lN:=aj hs1.below cF;have pz:=aj hs1.below dn;have hq:u1.heap.size=w.heap.size+1:=by rw [hu1];simp
 have kq:u1.cell? ⟨w.heap.size,0,none⟩=some (.pointer (some ⟨p,0,none⟩)):=by rw [hu1,World.cell?_alloc_at _ _ _ _ rfl];rfl
 obtain ⟨u2,hu2⟩:∃u2,u2=u1.alloc (.cells #[.int .i64 x.type,lv,bv] 45):=⟨_,rfl⟩;have hb2:Below u1.heap.size u1 u2:=by rw [hu2];exact aU u1 _
 have hs2:=hs1.on hb2
 have hW:Bx u2 w.heap.size 58 #[.pointer (some ⟨p,0,none⟩)]:=by
  unfold Bx;rw [hb2.block _ (by omega),hu1];exact tF w _
 have hF:Bx u2 u1.heap.size 45 #[.int .i64 x.type,lv,bv]:=by rw [hu2];exact Bx.new rfl
 have hpw:p<w.heap.size:=h.lt;have hown:∀k,v.ownBlock=some k->k<w.heap.size:=λk hk=>(h.own.lt k hk).2;have HK:Hid (Kept p v w v u2):=aa ((Kept.below hu).trans (Kept.below hb2));have vT:=hW.cell 0 _ rfl;have HC:=aa (Zw w0 p c v bs (gG x) ⟨w.heap.size,0,none⟩ ⟨u1.heap.size,0,none⟩ u2 hs2 (Zu C w0 hI p c v bs d x w.heap.size u1.heap.size lv bv u2 hs2 al ab hW hF (by omega) (by omega) (λe=>by have:=hown _ e.symm;omega) (λe=>by have:=hown _ e.symm;omega) hR hll hlen) hlen);obtain ⟨oL,zL,rfl⟩:=Row.len al;obtain ⟨oB,zB,rfl⟩:=At.len d _ _ ab;rw [hq] at HC;have bU:=aa hu1;have CU:=aa hu2;clear h hM hx hR hll hlen hcv fO bN cF dn al ab hu hs1 hs2 hb2 hW hF hpw hown hu1 hu2 hI;generalize x.locals.length=yL at *;generalize size d x.body=yB at *;generalize m.funcs.length=n at *;go_enter func43,ntmps43;go_upto_region 1 with fail;rw [<- bU.out];go_upto_region 2 with fail;rw [<- CU.out];clear bU CU kc lu lN pz kq hq;go_wp2_with fail;refine HC.out.mono ?_;rintro e w2 ⟨v2,b2,rfl,h2,k2,a2,l2⟩;have HS:=aa h2;have aW:=aa (HK.out.trans k2);have HF:Hid (So bs (dW (gG x)) b2):=aa ⟨a2,l2⟩;clear h2 k2 a2 l2 HC HK;go_wp2;go_end0;exact ⟨_,_,rfl,HS.out,aW.out,HF.out.1,HF.out.2⟩
namespace Enc
theorem Jt {α:Type} {l:List α} (h:l.length=11):∃x0 x1 x2 x3 x4 x5 x6 x7 x8 x9 bZ,l = [x0,x1,x2,x3,x4,x5,x6,x7,x8,x9,bZ]:=by
 match l,h with
 | [x0,x1,x2,x3,x4,x5,x6,x7,x8,x9,bZ],_=>exact ⟨x0,x1,x2,x3,x4,x5,x6,x7,x8,x9,bZ,rfl⟩
theorem RW.apart {w:World} {B:Nat} {v u:Value} {a b:List Int} {x y:Int} (hv:RW w B v (a++[x])) (hu:RW w B u (b++[y])) (hl:a.length=b.length) (hne:x≠y):∀k,v.ownBlock=some k->u.ownBlock≠some k:=by
 intro k hk hk';rcases hv.2 with ⟨rfl,h0⟩|⟨g,cap,cur,rfl,_,hg,_,_,_,ht⟩
 ·simp [Value.ownBlock] at hk
 rcases hu.2 with ⟨rfl,h0⟩|⟨g',cap',cur',rfl,_,hg',_,_,_,ht'⟩
 ·simp [Value.ownBlock] at hk'
 have e1:g=k:=by simpa [Value.ownBlock] using hk
 have e2:g'=k:=by simpa [Value.ownBlock] using hk'
 subst e1;subst e2;rw [hg] at hg';injection hg' with hg';injection hg' with hg' _ _;subst hg';have e3:(b++[y]).length*1=(a++[x]).length*1:=by simp [hl]
 rw [e3,ht] at ht'
 have:=PO ht'
 have h2:=congrArg List.getLast? this;simp at h2;exact hne h2
theorem PQ {K K0:Nat} (h:K=K0+1) (hb:K<=1000000):(K:Int)-1=(K0:Int)/\K0<K/\wrap64 (K0:Int)=(K0:Int)/\decide (0<K)=true/\0<K/\(0:Int)<(K:Int):=by
 subst h;refine ⟨by omega,by omega,by unfold wrap64;omega,by simp,by omega,by omega⟩
theorem Ju {j n:Nat} (h:j<n) (hl:n<=1000000):wrap64 ((j:Int)+1)=(j:Int)+1:=by unfold wrap64;omega
theorem Jv {j n:Nat} (h:j<n) (e:wrap64 ((j:Int)+1)=(j:Int)+1):n-(Lib.intOf (.int .i64 (wrap64 ((j:Int)+1)))).toNat<n-(Lib.intOf (.int .i64 (j:Int))).toNat:=by
 rw [e];simp [Lib.intOf];omega
theorem DJ {a b:Nat} (h:a<b):(a:Int)<(b:Int):=by omega
theorem PR {c:Int} (h:1<=c/\c<=1000000):wrap64 (c+1)=c+1:=by unfold wrap64;omega
end Enc
theorem PT (d : Nat) (x : gy d) (lv bv : Value) (w : World) (hL : Ints w lv x.locals) (hB : At w d bv x.body) (hR : Rg d x.body) (hll : x.locals.length ≤ 1000000) (hty : ∀ y ∈ x.locals, y = 126 ∨ y = 127) :
    Calls prog 103 #[.agg #[.int .i64 x.type, lv, bv]] w (lM w (gG x)) := by
  obtain ⟨oL, kL, rfl⟩ := Row.len hL;obtain ⟨oB, kB, rfl⟩ := At.len d _ _ hB;obtain ⟨wa, aG⟩ : ∃ wa, wa = w.alloc (.cells #[.int .i64 x.type, .slice oL x.locals.length kL, .slice oB (size d x.body) kB] 45) := ⟨_, rfl⟩;have eP : Below w.heap.size w wa := by rw [aG]; exact aU w _
  have hsa : wa.heap.size = w.heap.size + 1 := by rw [aG]; simp
  have hxa : Bx wa w.heap.size 45 #[.int .i64 x.type, .slice oL x.locals.length kL, .slice oB (size d x.body) kB] := by rw [aG]; exact Bx.new rfl
  obtain ⟨wb, hwb⟩ : ∃ wb, wb = wa.alloc (.cells #[.slice none 0 0, .bool false] 72) := ⟨_, rfl⟩;have hpn := PS.new wa;rw [← hwb] at hpn;have hbb : Below wa.heap.size wa wb := hpn.below;have hsb : wb.heap.size = w.heap.size + 2 := by rw [hwb]; simp [hsa]
  have ek := aa (hpn.mono eP);rw [hsa] at ek;have cg : Hid (Bx wb w.heap.size 45 #[.int .i64 x.type, .slice oL x.locals.length kL, .slice oB (size d x.body) kB]) := aa (by unfold Bx; rw [hbb.block _ hxa.lt]; exact hxa);have cK : Hid (Below w.heap.size w wb) := aa (eP.trans (hbb.mono eP.size));have HL := aa hL;have HB := aa hB;have HR := aa hR;have Jw := aa hty;have kN := aa aG;have Jy := aa hwb;have Jz : w.heap.size + 2 ≤ wb.heap.size := by omega
  clear hL hB hR hty aG hwb eP hbb hsa hxa hpn hsb;generalize hn : x.locals.length = n at *;have BM := aa hn;generalize size d x.body = nB at *;clear hn;go_enter func103, ntmps103;go_upto_region 2 with fail;rw [← kN.out, ← Jy.out];clear kN Jy;generalize JA : w.heap.size = bF at *;have PU := aa JA;clear JA;go_wp2_with fail;go_loopw [4, 5, 6] (λc t i wr => ∃ (j : Nat) (vc vt : Value), j ≤ n ∧ vc = c ∧ vt = t ∧ i = .int .i64 j ∧ Hid (RW wr wb.heap.size vc ((rn (x.locals.take j)).map Prod.fst)) ∧ Hid (RW wr wb.heap.size vt ((rn (x.locals.take j)).map Prod.snd)) ∧ Hid (∀ k, vc.ownBlock = some k → vt.ownBlock ≠ some k) ∧ Hid (Below wb.heap.size wb wr)) (λ_ _ i _ => n - (Lib.intOf i).toNat)
  case atStart => exact ⟨0, _, _, by omega, rfl, rfl, rfl, aa (World.ownsRow_nil _ _ _ _), aa (World.ownsRow_nil _ _ _ _), aa (λk h => by simp [Value.ownBlock] at h), aa (Below.refl _ _)⟩
  case round =>
    obtain ⟨j, vc, vt, hj, rfl, rfl, rfl, pX, pY, zt, rU⟩ := hrel;have hbx : Bx wr bF 45 #[.int .i64 x.type, .slice oL n kL, .slice oB nB kB] := by unfold Bx; rw [rU.out.block _ cg.out.lt]; exact cg.out
    have kl := hbx.cell 1 _ rfl;by_cases hgo : j < n
    · obtain ⟨bL, aJ, gb, hv1, hx1⟩ := Row.some HL.out (by have := BM.out; omega)
      injection hv1 with cJ e11 e12;subst cJ;clear e11 e12;obtain ⟨t, htk⟩ : ∃ t, x.locals[j]? = some t := ⟨_, aY (by have := BM.out; omega)⟩
      have BN : bL < wb.heap.size := by
        have := World.block_lt_of_cell? _ _ (hx1 j t htk);have h2 := cK.out.size;simp only at this;omega
      have ct := aj (by rw [PU.out]; exact cK.out.trans (rU.out.mono (by omega))) (hx1 j t htk);simp only [Nat.mul_one] at ct;have BO : bF < wb.heap.size := by omega
      have iQ := aa htk;have Fx := Jw.out t (dK htk);clear hx1 htk;obtain ⟨R, hR⟩ : ∃ R, rn (x.locals.take j) = R := ⟨_, rfl⟩;have hKb : R.length ≤ 1000000 := by have := (xZ (x.locals.take j)).1; rw [hR, jY] at this; omega
      have ui : Hid (∀ y ∈ R, 1 ≤ y.1 ∧ y.1 ≤ 1000000) := aa λy hy => by
        have h1 := (xZ (x.locals.take j)).2 y (by rw [hR]; exact hy);have h2 := h1.2.1;have h3 : (x.locals.take j).length ≤ n := by rw [jY]; omega
        exact ⟨h1.1, by omega⟩
      have wI : Hid (rn (x.locals.take (j + 1)) = tC R t) := aa (by rw [Ao iQ.out, hR]);rw [hR] at pX pY;clear hR;obtain ⟨oc, kc, rfl⟩ := pX.out.slice;obtain ⟨ot, kt, rfl⟩ := pY.out.slice;simp only [oI] at *;generalize vw : R.length = K at *;obtain ⟨cs, hcs⟩ : ∃ cs : List Int, R.map Prod.fst = cs := ⟨_, rfl⟩;obtain ⟨ts, hts⟩ : ∃ ts : List Int, R.map Prod.snd = ts := ⟨_, rfl⟩;rw [hcs] at pX;rw [hts] at pY;have zu : cs.length = K := by rw [← hcs, oI, vw]
      have zw : ts.length = K := by rw [← hts, oI, vw]
      rcases List.eq_nil_or_concat R with nD | ⟨pre, ⟨c, s⟩, JB⟩
      · have nX : Hid ((rn (x.locals.take (j + 1))).map Prod.fst = cs ++ [1] ∧ (rn (x.locals.take (j + 1))).map Prod.snd = ts ++ [t]) := aa (by rw [wI.out, ← hcs, ← hts, nD, PV]; exact ⟨rfl, rfl⟩)
        have hd : decide (0 < K) = false := by rw [← vw, nD]; rfl
        clear hcs hts vw nD wI ui;have Ap : Hid (cs.length ≤ 1000000) := aa (by rw [zu]; exact hKb);have Fy : Hid (ts.length ≤ 1000000) := aa (by rw [zw]; exact hKb);have Fz : Hid (cs.length = ts.length) := aa (by rw [zu, zw]);have FA : Hid ((1 : Int) ≠ t) := aa (by omega);have hsz : wb.heap.size ≤ wr.heap.size := rU.out.size;have wJ : Hid (∀ k, (Value.slice oc K kc).ownBlock = some k → k < wr.heap.size ∧ wb.heap.size ≤ k) := aa λk hk => ⟨(World.ownsRow.lt pX.out k hk).2, (World.ownsRow.lt pX.out k hk).1⟩;have wK : Hid (∀ k, (Value.slice ot K kt).ownBlock = some k → k < wr.heap.size ∧ wb.heap.size ≤ k) := aa λk hk => ⟨(World.ownsRow.lt pY.out k hk).2, (World.ownsRow.lt pY.out k hk).1⟩;have wL := aa (⟨kl, ct⟩ : _ ∧ _);have wM := aa (⟨BO, BN, hsz⟩ : _ ∧ _ ∧ _);clear hbx BO BN hsz hKb Fx zu zw;go_wp2_with fail;go_quiet (fail);go_upto_region 9 with fail
        refine ai.JC 11 (λi => 42 + i) (rV (.slice oc K kc) (.slice ot K kt)) (KC wb wr (.slice oc K kc) (.slice ot K kt)) (RC (.slice oc K kc) (.slice ot K kt) cs ts wb.heap.size) (GC wr (.slice oc K kc) (.slice ot K kt) cs ts bF wb.heap.size (.slice (some ⟨bL, aJ, none⟩) n kL) bL aJ j t) (by kernel_rfl) (by kernel_rfl) (λi j h1 h2 h => by have h' : 42 + i = 42 + j := h; omega) (ai.kz (size := 80) (by kernel_rfl)) (λi k v u u' hi hk hik _ hG hg => JD (λk h => (wJ.out k h).1) (λk h => (wK.out k h).1) zt.out i k v u u' hi hik hG hg) (λi k u u' hi hk hik hR hg => JE zt.out i k u u' hik hR hg) (λk u u' hk h hg => JF (λk h => (wJ.out k h).2) (λk h => (wK.out k h).2) k u u' h hg) ?hstep ?cH ⟨rU.out.trans ⟨rfl, rfl, rfl, aI _, λ_ _ => rfl⟩, aI _, λ_ _ _ _ => rfl⟩ (λi hi => by
          unfold RC;split
          · exact pX.out
          · exact pY.out
          trivial)
        case hstep =>
          intro i o a u hi ho hF lY BP hd;have f1 : a.tmps[1]?.getD undef = .pointer (some ⟨bF, 0, none⟩) := ai.av (hF.eval 1 (λi hi => by show 42 + i ≠ 1; omega));have f4 : a.tmps[4]?.getD undef = .slice oc K kc := ai.av (hF.eval 4 (λi hi => by show 42 + i ≠ 4; omega));have f5 : a.tmps[5]?.getD undef = .slice ot K kt := ai.av (hF.eval 5 (λi hi => by show 42 + i ≠ 5; omega));have f6 : a.tmps[6]?.getD undef = .int .i64 j := ai.av (hF.eval 6 (λi hi => by show 42 + i ≠ 6; omega));have kl := DK lY wM.out.1 (λk h => (wJ.out k h).2) (λk h => (wK.out k h).2) wM.out.2.2 wL.out.1;have ct := DK lY wM.out.2.1 (λk h => (wJ.out k h).2) (λk h => (wK.out k h).2) wM.out.2.2 wL.out.2;have hcase : i = 0 ∨ i = 1 ∨ i = 2 ∨ i = 3 ∨ i = 4 ∨ i = 5 ∨ i = 6 ∨ i = 7 ∨ i = 8 ∨ i = 9 ∨ i = 10 := by omega
          clear hi;rcases hcase with rfl | rfl | rfl | rfl | rfl | rfl | rfl | rfl | rfl | rfl | rfl
          all_goals (simp only [fI, gX, gz, gA] at ho; subst ho)
          · refine ai.az λK hK => ?_
            go_simp;exact hK _ _ ⟨_, rfl, ru _ _, rfl⟩
          · refine ai.az λK hK => ?_
            go_simp;exact hK _ _ ⟨_, rfl, World.grownBy_alloc _ _ _, ⟨_, rfl, lY.2.1, tF _ _⟩⟩
          · have q0 : a.eval (.tmp 42) = .slice oc K kc := hd 0 (by decide)
            obtain ⟨b, q1, q2, q3⟩ := (show ∃ b, a.eval (.tmp 43) = .slice (some ⟨b, 0, none⟩) 1 1 ∧ wr.heap.size ≤ b ∧ u.heap[b]? = some (.cells #[.int .i64 1] 3 (0, 0)) from hd 1 (by decide));exact DL _ _ rfl (show RW u wb.heap.size (.slice oc K kc) cs from BP) q0 b q1 1 q3 Ap.out lY.1.size λv' w' h1 h2 h3 => ⟨v', rfl, h2, h1, h3.imp id λh => ⟨_, h, lY.2.1⟩⟩
          · refine ai.az λK hK => ?_
            go_simp;exact hK _ _ ⟨_, rfl, ru _ _, rfl⟩
          · refine ai.az λK hK => ?_
            go_simp;exact hK _ _ ⟨_, rfl, ru _ _, rfl⟩
          · have q0 : a.tmps[46]?.getD undef = .pointer (some ⟨bF, 1, none⟩) := ai.av (hd 4 (by decide))
            refine ai.az λK hK => ?_;go_simp;exact hK _ _ ⟨_, rfl, ru _ _, rfl⟩
          · refine ai.az λK hK => ?_
            go_simp;exact hK _ _ ⟨_, rfl, ru _ _, rfl⟩
          · have q0 : a.tmps[47]?.getD undef = .slice (some ⟨bL, aJ, none⟩) n kL := ai.av (hd 5 (by decide))
            have q1 : a.tmps[48]?.getD undef = .int .i64 j := ai.av (hd 6 (by decide));refine ai.az λK hK => ?_;go_simp;exact hK _ _ ⟨_, rfl, ru _ _, rfl⟩
          · have q0 : a.tmps[49]?.getD undef = .pointer (some ⟨bL, aJ + j, none⟩) := ai.av (hd 7 (by decide))
            refine ai.az λK hK => ?_;go_simp;exact hK _ _ ⟨_, rfl, ru _ _, rfl⟩
          · have q0 : a.tmps[50]?.getD undef = .int .i64 t := ai.av (hd 8 (by decide))
            refine ai.az λK hK => ?_;go_simp;exact hK _ _ ⟨_, rfl, World.grownBy_alloc _ _ _, ⟨_, rfl, lY.2.1, tF _ _⟩⟩
          have q0 : a.eval (.tmp 45) = .slice ot K kt := hd 3 (by decide);obtain ⟨b, q1, q2, q3⟩ := (show ∃ b, a.eval (.tmp 51) = .slice (some ⟨b, 0, none⟩) 1 1 ∧ wr.heap.size ≤ b ∧ u.heap[b]? = some (.cells #[.int .i64 t] 3 (0, 0)) from hd 9 (by decide));exact DL _ _ rfl (show RW u wb.heap.size (.slice ot K kt) ts from BP) q0 b q1 t q3 Fy.out lY.1.size λv' w' h1 h2 h3 => ⟨v', rfl, h2, h1, h3.imp id λh => ⟨_, h, lY.2.1⟩⟩
        case cH =>
          intro a u hF lY hG;have g2 : RW u wb.heap.size (a.eval (.tmp 44)) (cs ++ [1]) := (hG 2 (by omega)).1;have g10 : RW u wb.heap.size (a.eval (.tmp 52)) (ts ++ [t]) := (hG 10 (by omega)).1;obtain ⟨xl, hxl, rfl, hev⟩ := hF.lit (by simp);obtain ⟨x0, x1, x2, x3, x4, x5, x6, x7, x8, x9, bZ, rfl⟩ := Jt hxl;have e2 := hev 2 (by omega);have e10 := hev 10 (by omega);simp only [qy, qA] at e2 e10;rw [show (42 + 2) = 44 from rfl] at e2;rw [show (42 + 10) = 52 from rfl] at e10;rw [e2] at g2;rw [e10] at g10;have FB := aa (g2.apart g10 Fz.out FA.out);have BQ : Hid (RW u wb.heap.size x2 ((rn (x.locals.take (j + 1))).map Prod.fst)) := aa (by rw [nX.out.1]; exact g2);have BR : Hid (RW u wb.heap.size bZ ((rn (x.locals.take (j + 1))).map Prod.snd)) := aa (by rw [nX.out.2]; exact g10);have wN := aa lY.1;clear hev hxl hF hG g2 g10 e2 e10 lY;simp only [iH, iI, fK, fB, iy, ed];go_wp2;go_roundw
          case rel => exact ⟨j + 1, x2, bZ, by omega, rfl, rfl, by go_num, BQ, BR, FB, wN⟩
          case measure => simp [Lib.intOf]; omega
      have nD : R = pre ++ [(c, s)] := by rw [JB, List.concat_eq_append]
      clear JB;obtain ⟨K0, tG⟩ : ∃ K0, pre.length = K0 := ⟨_, rfl⟩;have BS : K = K0 + 1 := by rw [← vw, nD, ← tG]; simp
      have hcs2 : cs = pre.map Prod.fst ++ [c] := by rw [← hcs, nD]; simp
      have DN : ts = pre.map Prod.snd ++ [s] := by rw [← hts, nD]; simp
      obtain ⟨gt, PW, tH, FC, DR, hct, _⟩ := pY.out.cells (by omega);injection tH with PX PY PZ;subst PX;clear PY PZ;obtain ⟨gc, P5, tJ, DT, DU, hcc, hfc⟩ := pX.out.cells (by omega);injection tJ with P6 P7 P8;subst P6;clear P7 P8;have cS := hct K0 s (by rw [DN, zx (by simp [tG])]; simp [tG]);have cC := hcc K0 c (by rw [hcs2, zx (by simp [tG])]; simp [tG]);have fC := hfc K0;have hgg : gt ≠ gc := λe => zt.out gc rfl (by rw [e]; rfl);have hcb := ui.out (c, s) (by rw [nD]; simp);simp only at hcb;have yc := PR hcb;obtain ⟨iT, zy, BU, JG, JH, JI⟩ := PQ BS hKb;clear hct hcc hfc;by_cases hst : s = t
      · subst hst
        have hb2 : (s==s) = true := by simp
        have FD : rn (x.locals.take (j + 1)) = pre ++ [(c + 1, s)] := by rw [wI.out, nD]; exact JJ
        have hl1 : (pre.map Prod.fst).length = K0 := by simp [tG]
        have hgr : wr.grownBy (wr.setCell ⟨gc, K0, none⟩ (.int .i64 (c + 1))) (some gc) := vz gc [.int .i64 (c + 1)] K0 wr
        have BQ : Hid (RW (wr.setCell ⟨gc, K0, none⟩ (.int .i64 (c + 1))) wb.heap.size (.slice (some ⟨gc, 0, none⟩) K kc) ((rn (x.locals.take (j + 1))).map Prod.fst)) := aa (by
          have h1 := pX.out;rw [hcs2, BS, ← hl1] at h1;have h2 := h1.bump (c + 1);rw [hl1, ← BS] at h2;rw [FD]; simpa using h2)
        have BR : Hid (RW (wr.setCell ⟨gc, K0, none⟩ (.int .i64 (c + 1))) wb.heap.size (.slice (some ⟨gt, 0, none⟩) K kt) ((rn (x.locals.take (j + 1))).map Prod.snd)) := aa (by
          have h1 := pY.out.grown hgr (BV λq hq e => by injection e with e; have : gt = q := (by simpa [Value.ownBlock] using hq); omega)
          rw [DN] at h1;rw [FD]; simpa using h1)
        have wN := aa (rU.out.setCell (p := ⟨gc, K0, none⟩) DT (.int .i64 (c + 1)));clear hcs hts hcs2 DN nD vw tG BS zu zw wI ui pX pY FD hl1 hgr hbx;have FE := DJ zy;have FF := DJ hgo;have FG : Hid (wrap64 ((j : Int) + 1) = (j : Int) + 1) := aa (Ju hgo hll);clear hgg DT DU FC DR BN BO Jz hll hKb hcb Fx;go_wp2_with fail;go_quiet (fail);have FH := FG.out;go_wp2;clear iT zy BU JG JH JI FE FF yc hb2;go_roundw
        case rel => exact ⟨j + 1, _, _, by omega, rfl, rfl, by go_num, aa BQ.out, aa BR.out, zt, aa ⟨wN.out.1, wN.out.2, wN.out.3, wN.out.size, wN.out.block⟩⟩
        case measure => exact Jv hgo FH
      have hb2 : (s==t) = false := by simp [hst]
      have nX : Hid ((rn (x.locals.take (j + 1))).map Prod.fst = cs ++ [1] ∧ (rn (x.locals.take (j + 1))).map Prod.snd = ts ++ [t]) := aa (by rw [wI.out, ← hcs, ← hts, nD, JK hst]; simp);clear hcs hts hcs2 DN nD vw tG BS wI ui;have Ap : Hid (cs.length ≤ 1000000) := aa (by rw [zu]; exact hKb);have Fy : Hid (ts.length ≤ 1000000) := aa (by rw [zw]; exact hKb);have Fz : Hid (cs.length = ts.length) := aa (by rw [zu, zw]);have FA : Hid ((1 : Int) ≠ t) := aa (by omega);have hsz : wb.heap.size ≤ wr.heap.size := rU.out.size;have wJ : Hid (∀ k, (Value.slice (some ⟨gc, 0, none⟩) K kc).ownBlock = some k → k < wr.heap.size ∧ wb.heap.size ≤ k) := aa λk hk => ⟨(World.ownsRow.lt pX.out k hk).2, (World.ownsRow.lt pX.out k hk).1⟩;have wK : Hid (∀ k, (Value.slice (some ⟨gt, 0, none⟩) K kt).ownBlock = some k → k < wr.heap.size ∧ wb.heap.size ≤ k) := aa λk hk => ⟨(World.ownsRow.lt pY.out k hk).2, (World.ownsRow.lt pY.out k hk).1⟩;have wL := aa (⟨kl, ct⟩ : _ ∧ _);have wM := aa (⟨BO, BN, hsz⟩ : _ ∧ _ ∧ _);clear hbx BO BN hsz hKb Fx zu zw;have FE := DJ zy;have FF := DJ hgo;have FG : Hid (wrap64 ((j : Int) + 1) = (j : Int) + 1) := aa (Ju hgo hll);clear hgg DT DU FC DR Jz hll hcb yc fC cC;go_wp2_with fail;go_quiet (fail);go_upto_region 9 with fail
      refine ai.JC 11 (λi => 42 + i) (rV (.slice (some ⟨gc, 0, none⟩) K kc) (.slice (some ⟨gt, 0, none⟩) K kt)) (KC wb wr (.slice (some ⟨gc, 0, none⟩) K kc) (.slice (some ⟨gt, 0, none⟩) K kt)) (RC (.slice (some ⟨gc, 0, none⟩) K kc) (.slice (some ⟨gt, 0, none⟩) K kt) cs ts wb.heap.size) (GC wr (.slice (some ⟨gc, 0, none⟩) K kc) (.slice (some ⟨gt, 0, none⟩) K kt) cs ts bF wb.heap.size (.slice (some ⟨bL, aJ, none⟩) n kL) bL aJ j t) (by kernel_rfl) (by kernel_rfl) (λi j h1 h2 h => by have h' : 42 + i = 42 + j := h; omega) (ai.kz (size := 80) (by kernel_rfl)) (λi k v u u' hi hk hik _ hG hg => JD (λk h => (wJ.out k h).1) (λk h => (wK.out k h).1) zt.out i k v u u' hi hik hG hg) (λi k u u' hi hk hik hR hg => JE zt.out i k u u' hik hR hg) (λk u u' hk h hg => JF (λk h => (wJ.out k h).2) (λk h => (wK.out k h).2) k u u' h hg) ?hstep ?cH ⟨rU.out.trans ⟨rfl, rfl, rfl, aI _, λ_ _ => rfl⟩, aI _, λ_ _ _ _ => rfl⟩ (λi hi => by
        unfold RC;split
        · exact pX.out
        · exact pY.out
        trivial)
      case hstep =>
        intro i o a u hi ho hF lY BP hd;have f1 : a.tmps[1]?.getD undef = .pointer (some ⟨bF, 0, none⟩) := ai.av (hF.eval 1 (λi hi => by show 42 + i ≠ 1; omega));have f4 : a.tmps[4]?.getD undef = .slice (some ⟨gc, 0, none⟩) K kc := ai.av (hF.eval 4 (λi hi => by show 42 + i ≠ 4; omega));have f5 : a.tmps[5]?.getD undef = .slice (some ⟨gt, 0, none⟩) K kt := ai.av (hF.eval 5 (λi hi => by show 42 + i ≠ 5; omega));have f6 : a.tmps[6]?.getD undef = .int .i64 j := ai.av (hF.eval 6 (λi hi => by show 42 + i ≠ 6; omega));have kl := DK lY wM.out.1 (λk h => (wJ.out k h).2) (λk h => (wK.out k h).2) wM.out.2.2 wL.out.1;have ct := DK lY wM.out.2.1 (λk h => (wJ.out k h).2) (λk h => (wK.out k h).2) wM.out.2.2 wL.out.2;have hcase : i = 0 ∨ i = 1 ∨ i = 2 ∨ i = 3 ∨ i = 4 ∨ i = 5 ∨ i = 6 ∨ i = 7 ∨ i = 8 ∨ i = 9 ∨ i = 10 := by omega
        clear hi;rcases hcase with rfl | rfl | rfl | rfl | rfl | rfl | rfl | rfl | rfl | rfl | rfl
        all_goals (simp only [fI, gX, gz, gA] at ho; subst ho)
        · refine ai.az λK hK => ?_
          go_simp;exact hK _ _ ⟨_, rfl, ru _ _, rfl⟩
        · refine ai.az λK hK => ?_
          go_simp;exact hK _ _ ⟨_, rfl, World.grownBy_alloc _ _ _, ⟨_, rfl, lY.2.1, tF _ _⟩⟩
        · have q0 : a.eval (.tmp 42) = .slice (some ⟨gc, 0, none⟩) K kc := hd 0 (by decide)
          obtain ⟨b, q1, q2, q3⟩ := (show ∃ b, a.eval (.tmp 43) = .slice (some ⟨b, 0, none⟩) 1 1 ∧ wr.heap.size ≤ b ∧ u.heap[b]? = some (.cells #[.int .i64 1] 3 (0, 0)) from hd 1 (by decide));exact DL _ _ rfl (show RW u wb.heap.size (.slice (some ⟨gc, 0, none⟩) K kc) cs from BP) q0 b q1 1 q3 Ap.out lY.1.size λv' w' h1 h2 h3 => ⟨v', rfl, h2, h1, h3.imp id λh => ⟨_, h, lY.2.1⟩⟩
        · refine ai.az λK hK => ?_
          go_simp;exact hK _ _ ⟨_, rfl, ru _ _, rfl⟩
        · refine ai.az λK hK => ?_
          go_simp;exact hK _ _ ⟨_, rfl, ru _ _, rfl⟩
        · have q0 : a.tmps[46]?.getD undef = .pointer (some ⟨bF, 1, none⟩) := ai.av (hd 4 (by decide))
          refine ai.az λK hK => ?_;go_simp;exact hK _ _ ⟨_, rfl, ru _ _, rfl⟩
        · refine ai.az λK hK => ?_
          go_simp;exact hK _ _ ⟨_, rfl, ru _ _, rfl⟩
        · have q0 : a.tmps[47]?.getD undef = .slice (some ⟨bL, aJ, none⟩) n kL := ai.av (hd 5 (by decide))
          have q1 : a.tmps[48]?.getD undef = .int .i64 j := ai.av (hd 6 (by decide));refine ai.az λK hK => ?_;go_simp;exact hK _ _ ⟨_, rfl, ru _ _, rfl⟩
        · have q0 : a.tmps[49]?.getD undef = .pointer (some ⟨bL, aJ + j, none⟩) := ai.av (hd 7 (by decide))
          refine ai.az λK hK => ?_;go_simp;exact hK _ _ ⟨_, rfl, ru _ _, rfl⟩
        · have q0 : a.tmps[50]?.getD undef = .int .i64 t := ai.av (hd 8 (by decide))
          refine ai.az λK hK => ?_;go_simp;exact hK _ _ ⟨_, rfl, World.grownBy_alloc _ _ _, ⟨_, rfl, lY.2.1, tF _ _⟩⟩
        have q0 : a.eval (.tmp 45) = .slice (some ⟨gt, 0, none⟩) K kt := hd 3 (by decide);obtain ⟨b, q1, q2, q3⟩ := (show ∃ b, a.eval (.tmp 51) = .slice (some ⟨b, 0, none⟩) 1 1 ∧ wr.heap.size ≤ b ∧ u.heap[b]? = some (.cells #[.int .i64 t] 3 (0, 0)) from hd 9 (by decide));exact DL _ _ rfl (show RW u wb.heap.size (.slice (some ⟨gt, 0, none⟩) K kt) ts from BP) q0 b q1 t q3 Fy.out lY.1.size λv' w' h1 h2 h3 => ⟨v', rfl, h2, h1, h3.imp id λh => ⟨_, h, lY.2.1⟩⟩
      case cH =>
        intro a u hF lY hG;have g2 : RW u wb.heap.size (a.eval (.tmp 44)) (cs ++ [1]) := (hG 2 (by omega)).1;have g10 : RW u wb.heap.size (a.eval (.tmp 52)) (ts ++ [t]) := (hG 10 (by omega)).1;obtain ⟨xl, hxl, rfl, hev⟩ := hF.lit (by simp);obtain ⟨x0, x1, x2, x3, x4, x5, x6, x7, x8, x9, bZ, rfl⟩ := Jt hxl;have e2 := hev 2 (by omega);have e10 := hev 10 (by omega);simp only [qy, qA] at e2 e10;rw [show (42 + 2) = 44 from rfl] at e2;rw [show (42 + 10) = 52 from rfl] at e10;rw [e2] at g2;rw [e10] at g10;have FB := aa (g2.apart g10 Fz.out FA.out);have BQ : Hid (RW u wb.heap.size x2 ((rn (x.locals.take (j + 1))).map Prod.fst)) := aa (by rw [nX.out.1]; exact g2);have BR : Hid (RW u wb.heap.size bZ ((rn (x.locals.take (j + 1))).map Prod.snd)) := aa (by rw [nX.out.2]; exact g10);have wN := aa lY.1;clear hev hxl hF hG g2 g10 e2 e10 lY;simp only [iH, iI, fK, fB, iy, ed];have FH := FG.out;clear iT zy BU JG JH JI FE FF hb2 hst;go_wp2;go_roundw
        case rel => exact ⟨j + 1, x2, bZ, by omega, rfl, rfl, by go_num, BQ, BR, FB, wN⟩
        case measure => exact Jv hgo FH
    obtain rfl : n = j := by omega
    have hP := ek.out.on rU.out;have rT : Hid (bF ≠ bF + 1 ∧ bF < wr.heap.size) := aa ⟨by omega, by have := rU.out.size; omega⟩;have P9 := aa hbx;clear hbx;obtain ⟨R, hR⟩ : ∃ R, rn x.locals = R := ⟨_, rfl⟩;rw [jZ (by have := BM.out; omega), hR] at pX pY;have hKb : R.length ≤ 1000000 := by have := (xZ x.locals).1; rw [hR] at this; have := BM.out; omega
    have ui : Hid (∀ y ∈ R, 1 ≤ y.1 ∧ y.1 ≤ 1000000) := aa λy hy => by
      have h1 := (xZ x.locals).2 y (by rw [hR]; exact hy);have h2 := h1.2.1;have h3 := BM.out;exact ⟨h1.1, by omega⟩
    obtain ⟨oc, kc, rfl⟩ := pX.out.slice;obtain ⟨ot, kt, rfl⟩ := pY.out.slice;have JL : ∀ (i : Nat) (y : Int × Int), R[i]? = some y → (R.map Prod.fst)[i]? = some y.1 := λi y h => by rw [List.getElem?_map, h]; rfl
    have JM : ∀ (i : Nat) (y : Int × Int), R[i]? = some y → (R.map Prod.snd)[i]? = some y.2 := λi y h => by rw [List.getElem?_map, h]; rfl
    have Qa : Hid (0 < R.length → ∃ gc gt, oc = some ⟨gc, 0, none⟩ ∧ ot = some ⟨gt, 0, none⟩ ∧ bF + 1 < gc ∧ bF + 1 < gt ∧ gc < wr.heap.size ∧ gt < wr.heap.size ∧ ∀ (i : Nat) (y : Int × Int), R[i]? = some y → wr.cell? ⟨gc, i, none⟩ = some (.int .i64 y.1) ∧ wr.cell? ⟨gt, i, none⟩ = some (.int .i64 y.2)) := aa λh0 => by
      obtain ⟨gt, PW, tH, FC, DR, hct, _⟩ := pY.out.cells (by simpa using h0);obtain ⟨gc, P5, tJ, DT, DU, hcc, _⟩ := pX.out.cells (by simpa using h0);injection tH with tH _ _;injection tJ with tJ _ _;exact ⟨gc, gt, tJ, tH, by omega, by omega, DU, DR, λi y h => ⟨hcc i _ (JL i y h), hct i _ (JM i y h)⟩⟩
    simp only [oI] at *;have JN : Hid (gG x = ak.uB (R.length : Int) ++ (R.flatMap λy => ak.uB y.1 ++ [y.2 % 256]) ++ (aQ d x.body ++ [11])) := aa (by unfold gG uj; rw [hR]);have HC := aa (dU w (bF + 1) false (.slice none 0 0) [] [] (R.length : Int) wr hP St.nil (by omega) (by omega));rw [ed] at HC;clear ek pX pY zt JL JM hP hR cg HL Jw;generalize vw : R.length = K at *;have wL := aa vw;clear vw;obtain ⟨u0, hu0⟩ : ∃ u0, ak.uB (K : Int) = u0 := ⟨_, rfl⟩;rw [hu0] at HC JN;clear hu0;go_wp2_with fail;refine HC.out.mono ?_;rintro e w1 ⟨df, v1, b1, rfl, h1, s1, k1⟩;have uk := aa h1;have um := aa s1;have aO := aa k1;clear h1 s1 k1 HC;go_wp2_with fail;go_loopw [8] (λi w2 => ∃ (j2 : Nat) (bw : Bool) (v3 : Value) (b3 : List Int), j2 ≤ K ∧ i = .int .i64 j2 ∧ Hid (PS w (bF + 1) bw v3 b3 w2) ∧ Hid (St (u0 ++ (R.take j2).flatMap λy : Int × Int => ak.uB y.1 ++ [y.2 % 256]) bw b3) ∧ Hid (Kept (bF + 1) (.slice none 0 0) wr v3 w2)) (λi _ => K - (Lib.intOf i).toNat)
    case atStart => exact ⟨0, df, v1, b1, by omega, rfl, uk, aa (by simpa using um.out), aO⟩
    case round =>
      clear uk um aO;obtain ⟨j2, bw, v3, b3, hj2, rfl, iU, HST, ba⟩ := hrel;by_cases aaO : j2 < K
      · obtain ⟨gc, gt, rfl, rfl, g1, g2, g3, g4, hcell⟩ := Qa.out (by have := wL.out; omega)
        obtain ⟨y, hyk⟩ : ∃ y, R[j2]? = some y := ⟨_, aY (by have := wL.out; omega)⟩;obtain ⟨mR, nE⟩ := hcell j2 y hyk;have hyb := ui.out y (dK hyk);have iQ : Hid ((R.take (j2 + 1)).flatMap (λy : Int × Int => ak.uB y.1 ++ [y.2 % 256]) = (R.take j2).flatMap (λy : Int × Int => ak.uB y.1 ++ [y.2 % 256]) ++ (ak.uB y.1 ++ [y.2 % 256])) := aa (ry hyk);have HG := aa (⟨g1, g2, g3, g4, mR, nE⟩ : _ ∧ _ ∧ _ ∧ _ ∧ _ ∧ _);have hbc := ba.out.block gc g3 (by omega) (by simp [Value.ownBlock]);have lu := (World.cell?_of_block (a := ⟨gc, j2, none⟩) hbc).trans mR;obtain ⟨y0, y1⟩ := y;simp only at lu hyb;clear hcell hyk hbc mR nE g1 g2 g3 g4;have HC := aa (dU w (bF + 1) bw v3 b3 _ y0 _ iU.out HST.out (by omega) (by omega));go_wp2_with fail;refine HC.out.mono ?_;rintro e w4 ⟨dO, v4, b4, rfl, h4, s4, k4⟩;have cm := aa h4;have jS := aa s4;have bO := aa (ba.out.trans k4);clear h4 s4 k4 HC lu;have hbt := bO.out.block gt HG.out.2.2.2.1 (by have := HG.out.2.1; omega) (by simp [Value.ownBlock]);have lN := (World.cell?_of_block (a := ⟨gt, j2, none⟩) hbt).trans HG.out.2.2.2.2.2;clear hbt;have HC := aa (dV w (bF + 1) dO v4 b4 _ y1 w4 cm.out jS.out);go_wp2_with fail;refine HC.out.mono ?_;rintro e w5 ⟨iz, v5, b5, rfl, h5, s5, k5⟩;have cW := aa h5;have kK : Hid (St (u0 ++ (R.take (j2 + 1)).flatMap λy : Int × Int => ak.uB y.1 ++ [y.2 % 256]) iz b5) := aa (by rw [iQ.out]; simpa [bf] using s5);have kg := aa (bO.out.trans k5);clear h5 s5 k5 HC lN;go_wp2;go_roundw
        case rel => exact ⟨j2 + 1, iz, v5, b5, by omega, by go_num, cW, kK, kg⟩
        case measure => simp [Lib.intOf]; omega
      obtain rfl : K = j2 := by omega
      have hbf := ba.out.block bF rT.out.2 rT.out.1 (by simp [Value.ownBlock]);have kb := (World.cell?_of_block (a := ⟨bF, 2, none⟩) hbf).trans (P9.out.cell 2 _ rfl);clear hbf;have kC : Hid (St (u0 ++ R.flatMap λy : Int × Int => ak.uB y.1 ++ [y.2 % 256]) bw b3) := aa (by have h1 := HST.out; rw [jZ (by have := wL.out; omega)] at h1; exact h1);have HC := aa (Qb w (bF + 1) d _ x.body bw v3 b3 _ _ iU.out kC.out HB.out HR.out);go_wp2_with fail;refine HC.out.mono ?_;rintro e w5 ⟨iz, v5, b5, rfl, h5, s5, k5⟩;have HF := aa (⟨h5, by rw [JN.out]; exact s5⟩ : PS w (bF + 1) iz v5 b5 w5 ∧ St (gG x) iz b5);clear h5 s5 k5 HC kb;go_wp2;go_ret;exact ⟨_, _, _, _, rfl, HF.out.1, HF.out.2⟩
end Go.Proofs.YtmfcojpjpgldhaaGreatDoor
