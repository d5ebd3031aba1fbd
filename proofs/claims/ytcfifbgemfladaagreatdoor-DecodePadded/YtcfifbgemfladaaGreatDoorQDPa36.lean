/- Texts that the claim needs. -/
import Derived.Test.YtcfifbgemfladaaGreatDoorQDPa35
import Derived.Test.YtcfifbgemfladaaGreatDoorQDPa7
namespace Go.Proofs.YtcfifbgemfladaaGreatDoor
open Go.RowKit au Enc Go.Lib Go.Proofs.Tryz
set_option linter.unusedVariables false
set_option maxRecDepth 100000
set_option maxHeartbeats 8000000
namespace Enc
theorem Mi {α:Type} {l:List α} (h:l.length=11):∃x0 x1 x2 x3 x4 x5 x6 x7 x8 x9 cF,l = [x0,x1,x2,x3,x4,x5,x6,x7,x8,x9,cF]:=by
 match l,h with
 | [x0,x1,x2,x3,x4,x5,x6,x7,x8,x9,cF],_=>exact ⟨x0,x1,x2,x3,x4,x5,x6,x7,x8,x9,cF,rfl⟩
theorem RW.apart {w:AG} {B:Nat} {v u:Value} {a b:List Int} {x y:Int} (hv:RW w B v (a++[x])) (hu:RW w B u (b++[y])) (hl:a.length=b.length) (hne:x≠y):∀k,v.ownBlock=some k->u.ownBlock≠some k:=by
 intro k hk hk';rcases hv.2 with ⟨rfl,h0⟩|⟨g,cap,cur,rfl,_,hg,_,_,_,ht⟩
 ·simp [Value.ownBlock] at hk
 rcases hu.2 with ⟨rfl,h0⟩|⟨g',cap',cur',rfl,_,hg',_,_,_,ht'⟩
 ·simp [Value.ownBlock] at hk'
 have e1:g=k:=by simpa [Value.ownBlock] using hk
 have e2:g'=k:=by simpa [Value.ownBlock] using hk'
 subst e1;subst e2;rw [hg] at hg';injection hg' with hg';injection hg' with hg' _ _;subst hg';have e3:(b++[y]).length*1=(a++[x]).length*1:=by simp [hl]
 rw [e3,ht] at ht'
 have:=TR ht'
 have h2:=congrArg List.getLast? this;simp at h2;exact hne h2
theorem TS {K K0:Nat} (h:K=K0+1) (hb:K<=1000000):(K:Int)-1=(K0:Int)/\K0<K/\wrap64 (K0:Int)=(K0:Int)/\decide (0<K)=true/\0<K/\(0:Int)<(K:Int):=by
 subst h;refine ⟨by omega,by omega,by unfold wrap64;omega,by simp,by omega,by omega⟩
theorem Mj {j n:Nat} (h:j<n) (hl:n<=1000000):wrap64 ((j:Int)+1)=(j:Int)+1:=by unfold wrap64;omega
theorem Mk {j n:Nat} (h:j<n) (e:wrap64 ((j:Int)+1)=(j:Int)+1):n-(Lib.intOf (.int .i64 (wrap64 ((j:Int)+1)))).toNat<n-(Lib.intOf (.int .i64 (j:Int))).toNat:=by
 rw [e];simp [Lib.intOf];omega
theorem FE {a b:Nat} (h:a<b):(a:Int)<(b:Int):=by omega
theorem TT {c:Int} (h:1<=c/\c<=1000000):wrap64 (c+1)=c+1:=by unfold wrap64;omega
end Enc
theorem TU (d : Nat) (x : fF d) (lv bv : Value) (w : AG) (hL : Ints w lv x.locals) (hB : At w d bv x.body) (hR : Rg d x.body) (hll : x.locals.length ≤ 1000000) (hty : ∀ y ∈ x.locals, y = 126 ∨ y = 127) :
    Calls prog 68 #[.agg #[.int .i64 x.type, lv, bv]] w (kT w (cQ x)) := by
  obtain ⟨oL, kL, rfl⟩ := Row.len hL;obtain ⟨oB, kB, rfl⟩ := At.len d _ _ hB;obtain ⟨wa, gy⟩ : ∃ wa, wa = w.alloc (.cells #[.int .i64 x.type, .slice oL x.locals.length kL, .slice oB (size d x.body) kB] 55) := ⟨_, rfl⟩;have wE : Below w.heap.size w wa := by rw [gy]; exact aQ w _
  have hsa : wa.heap.size = w.heap.size + 1 := by rw [gy]; simp
  have hxa : Bx wa w.heap.size 55 #[.int .i64 x.type, .slice oL x.locals.length kL, .slice oB (size d x.body) kB] := by rw [gy]; exact Bx.new rfl
  obtain ⟨wb, hwb⟩ : ∃ wb, wb = wa.alloc (.cells #[.slice none 0 0, .bool false] 70) := ⟨_, rfl⟩;have hpn := PS.new wa;rw [← hwb] at hpn;have hbb : Below wa.heap.size wa wb := hpn.below;have hsb : wb.heap.size = w.heap.size + 2 := by rw [hwb]; simp [hsa]
  have dx := aa (hpn.mono wE);rw [hsa] at dx;have bI : Hid (Bx wb w.heap.size 55 #[.int .i64 x.type, .slice oL x.locals.length kL, .slice oB (size d x.body) kB]) := aa (by unfold Bx; rw [hbb.block _ hxa.lt]; exact hxa);have cW : Hid (Below w.heap.size w wb) := aa (wE.trans (hbb.mono wE.size));have HL := aa hL;have HB := aa hB;have HR := aa hR;have Ml := aa hty;have jR := aa gy;have Mm := aa hwb;have Mo : w.heap.size + 2 ≤ wb.heap.size := by omega
  clear hL hB hR hty gy hwb wE hbb hsa hxa hpn hsb;generalize hn : x.locals.length = n at *;have CP := aa hn;generalize size d x.body = nB at *;clear hn;go_enter func68, ntmps68;go_upto_region 2 with fail;rw [← jR.out, ← Mm.out];clear jR Mm;generalize Mq : w.heap.size = bF at *;have TV := aa Mq;clear Mq;go_wp2_with fail;go_loopw [4, 5, 6] (λc t i wr => ∃ (j : Nat) (vc vt : Value), j ≤ n ∧ vc = c ∧ vt = t ∧ i = .int .i64 j ∧ Hid (RW wr wb.heap.size vc ((rn (x.locals.take j)).map Prod.fst)) ∧ Hid (RW wr wb.heap.size vt ((rn (x.locals.take j)).map Prod.snd)) ∧ Hid (∀ k, vc.ownBlock = some k → vt.ownBlock ≠ some k) ∧ Hid (Below wb.heap.size wb wr)) (λ_ _ i _ => n - (Lib.intOf i).toNat)
  case atStart => exact ⟨0, _, _, by omega, rfl, rfl, rfl, aa (World.ownsRow_nil _ _ _ _), aa (World.ownsRow_nil _ _ _ _), aa (λk h => by simp [Value.ownBlock] at h), aa (AC _ _)⟩
  case round =>
    obtain ⟨j, vc, vt, hj, rfl, rfl, rfl, mS, qj, zZ, sP⟩ := hrel;have hbx : Bx wr bF 55 #[.int .i64 x.type, .slice oL n kL, .slice oB nB kB] := by unfold Bx; rw [sP.out.block _ bI.out.lt]; exact bI.out
    have kl := hbx.cell 1 _ rfl;by_cases hgo : j < n
    · obtain ⟨bL, aY, kG, hv1, hx1⟩ := Row.some HL.out (by have := CP.out; omega)
      injection hv1 with dX e11 e12;subst dX;clear e11 e12;obtain ⟨t, htk⟩ : ∃ t, x.locals[j]? = some t := ⟨_, bG (by have := CP.out; omega)⟩
      have CQ : bL < wb.heap.size := by
        have := World.block_lt_of_cell? _ _ (hx1 j t htk);have h2 := cW.out.size;simp only at this;omega
      have ct := ak (by show Below w.heap.size w _;rw [TV.out]; exact cW.out.trans (sP.out.mono (by omega))) (hx1 j t htk);simp only [Nat.mul_one] at ct;have CR : bF < wb.heap.size := by omega
      have jI := aa htk;have xF := Ml.out t (iF htk);clear hx1 htk;obtain ⟨R, hR⟩ : ∃ R, rn (x.locals.take j) = R := ⟨_, rfl⟩;have hKb : R.length ≤ 1000000 := by have := (zY (x.locals.take j)).1; rw [hR, yY] at this; omega
      have uT : Hid (∀ y ∈ R, 1 ≤ y.1 ∧ y.1 ≤ 1000000) := aa λy hy => by
        have h1 := (zY (x.locals.take j)).2 y (by rw [hR]; exact hy);have h2 := h1.2.1;have h3 : (x.locals.take j).length ≤ n := by rw [yY]; omega
        exact ⟨h1.1, by omega⟩
      have sQ : Hid (rn (x.locals.take (j + 1)) = sU R t) := aa (by rw [Mr jI.out, hR]);rw [hR] at mS qj;clear hR;obtain ⟨oc, kc, rfl⟩ := mS.out.slice;obtain ⟨ot, kt, rfl⟩ := qj.out.slice;simp only [jS] at *;generalize wF : R.length = K at *;obtain ⟨cs, hcs⟩ : ∃ cs : List Int, R.map Prod.fst = cs := ⟨_, rfl⟩;obtain ⟨ts, hts⟩ : ∃ ts : List Int, R.map Prod.snd = ts := ⟨_, rfl⟩;rw [hcs] at mS;rw [hts] at qj;have Aa : cs.length = K := by rw [← hcs, jS, wF]
      have Ab : ts.length = K := by rw [← hts, jS, wF]
      rcases List.eq_nil_or_concat R with jT | ⟨pre, ⟨c, s⟩, Ms⟩
      · have sV : Hid ((rn (x.locals.take (j + 1))).map Prod.fst = cs ++ [1] ∧ (rn (x.locals.take (j + 1))).map Prod.snd = ts ++ [t]) := aa (by rw [sQ.out, ← hcs, ← hts, jT, Mt]; exact ⟨rfl, rfl⟩)
        have hd : decide (0 < K) = false := by rw [← wF, jT]; rfl
        clear hcs hts wF jT sQ uT;have Ig : Hid (cs.length ≤ 1000000) := aa (by rw [Aa]; exact hKb);have Ih : Hid (ts.length ≤ 1000000) := aa (by rw [Ab]; exact hKb);have Ii : Hid (cs.length = ts.length) := aa (by rw [Aa, Ab]);have Ij : Hid ((1 : Int) ≠ t) := aa (by omega);have hsz : wb.heap.size ≤ wr.heap.size := sP.out.size;have xG : Hid (∀ k, (Value.slice oc K kc).ownBlock = some k → k < wr.heap.size ∧ wb.heap.size ≤ k) := aa λk hk => ⟨(World.ownsRow.lt mS.out k hk).2, (World.ownsRow.lt mS.out k hk).1⟩;have xH : Hid (∀ k, (Value.slice ot K kt).ownBlock = some k → k < wr.heap.size ∧ wb.heap.size ≤ k) := aa λk hk => ⟨(World.ownsRow.lt qj.out k hk).2, (World.ownsRow.lt qj.out k hk).1⟩;have xI := aa (⟨kl, ct⟩ : _ ∧ _);have xJ := aa (⟨CR, CQ, hsz⟩ : _ ∧ _ ∧ _);clear hbx CR CQ hsz hKb xF Aa Ab;go_wp2_with fail;go_quiet (fail);go_upto_region 9 with fail
        refine ai.CS 11 (λi => 42 + i) (sW (.slice oc K kc) (.slice ot K kt)) (KC wb wr (.slice oc K kc) (.slice ot K kt)) (RC (.slice oc K kc) (.slice ot K kt) cs ts wb.heap.size) (GC wr (.slice oc K kc) (.slice ot K kt) cs ts bF wb.heap.size (.slice (some ⟨bL, aY, none⟩) n kL) bL aY j t) (by kernel_rfl) (by kernel_rfl) (λi j h1 h2 h => by have h' : 42 + i = 42 + j := h; omega) (ai.lJ (size := 80) (by kernel_rfl)) (λi k v u u' hi hk hik _ hG hg => Mv (λk h => (xG.out k h).1) (λk h => (xH.out k h).1) zZ.out i k v u u' hi hik hG hg) (λi k u u' hi hk hik hR hg => Mw zZ.out i k u u' hik hR hg) (λk u u' hk h hg => Mx (λk h => (xG.out k h).2) (λk h => (xH.out k h).2) k u u' h hg) ?hstep ?cO ⟨sP.out.trans ⟨rfl, rfl, rfl, aC _, λ_ _ => rfl⟩, aC _, λ_ _ _ _ => rfl⟩ (λi hi => by
          unfold RC;split
          · exact mS.out
          · exact qj.out
          trivial)
        case hstep =>
          intro i o a u hi ho hF cA CU hd;have f1 : a.tmps[1]?.getD undef = .pointer (some ⟨bF, 0, none⟩) := ai.aB (hF.eval 1 (λi hi => by show 42 + i ≠ 1; omega));have f4 : a.tmps[4]?.getD undef = .slice oc K kc := ai.aB (hF.eval 4 (λi hi => by show 42 + i ≠ 4; omega));have f5 : a.tmps[5]?.getD undef = .slice ot K kt := ai.aB (hF.eval 5 (λi hi => by show 42 + i ≠ 5; omega));have f6 : a.tmps[6]?.getD undef = .int .i64 j := ai.aB (hF.eval 6 (λi hi => by show 42 + i ≠ 6; omega));have kl := FF cA xJ.out.1 (λk h => (xG.out k h).2) (λk h => (xH.out k h).2) xJ.out.2.2 xI.out.1;have ct := FF cA xJ.out.2.1 (λk h => (xG.out k h).2) (λk h => (xH.out k h).2) xJ.out.2.2 xI.out.2;have hcase : i = 0 ∨ i = 1 ∨ i = 2 ∨ i = 3 ∨ i = 4 ∨ i = 5 ∨ i = 6 ∨ i = 7 ∨ i = 8 ∨ i = 9 ∨ i = 10 := by omega
          clear hi;rcases hcase with rfl | rfl | rfl | rfl | rfl | rfl | rfl | rfl | rfl | rfl | rfl
          all_goals (simp only [gz, gU, gV, gN] at ho; subst ho)
          · refine ai.aO λK hK => ?_
            go_simp;exact hK _ _ ⟨_, rfl, rH _ _, rfl⟩
          · refine ai.aO λK hK => ?_
            go_simp;exact hK _ _ ⟨_, rfl, World.grownBy_alloc _ _ _, ⟨_, rfl, cA.2.1, CW _ _⟩⟩
          · have q0 : a.eval (.tmp 42) = .slice oc K kc := hd 0 (by decide)
            obtain ⟨b, q1, q2, q3⟩ := (show ∃ b, a.eval (.tmp 43) = .slice (some ⟨b, 0, none⟩) 1 1 ∧ wr.heap.size ≤ b ∧ u.heap[b]? = some (.cells #[.int .i64 1] 3 (0, 0)) from hd 1 (by decide));exact FG _ _ rfl (show RW u wb.heap.size (.slice oc K kc) cs from CU) q0 b q1 1 q3 Ig.out cA.1.size λv' w' h1 h2 h3 => ⟨v', rfl, h2, h1, h3.imp id λh => ⟨_, h, cA.2.1⟩⟩
          · refine ai.aO λK hK => ?_
            go_simp;exact hK _ _ ⟨_, rfl, rH _ _, rfl⟩
          · refine ai.aO λK hK => ?_
            go_simp;exact hK _ _ ⟨_, rfl, rH _ _, rfl⟩
          · have q0 : a.tmps[46]?.getD undef = .pointer (some ⟨bF, 1, none⟩) := ai.aB (hd 4 (by decide))
            refine ai.aO λK hK => ?_;go_simp;exact hK _ _ ⟨_, rfl, rH _ _, rfl⟩
          · refine ai.aO λK hK => ?_
            go_simp;exact hK _ _ ⟨_, rfl, rH _ _, rfl⟩
          · have q0 : a.tmps[47]?.getD undef = .slice (some ⟨bL, aY, none⟩) n kL := ai.aB (hd 5 (by decide))
            have q1 : a.tmps[48]?.getD undef = .int .i64 j := ai.aB (hd 6 (by decide));refine ai.aO λK hK => ?_;go_simp;exact hK _ _ ⟨_, rfl, rH _ _, rfl⟩
          · have q0 : a.tmps[49]?.getD undef = .pointer (some ⟨bL, aY + j, none⟩) := ai.aB (hd 7 (by decide))
            refine ai.aO λK hK => ?_;go_simp;exact hK _ _ ⟨_, rfl, rH _ _, rfl⟩
          · have q0 : a.tmps[50]?.getD undef = .int .i64 t := ai.aB (hd 8 (by decide))
            refine ai.aO λK hK => ?_;go_simp;exact hK _ _ ⟨_, rfl, World.grownBy_alloc _ _ _, ⟨_, rfl, cA.2.1, CW _ _⟩⟩
          have q0 : a.eval (.tmp 45) = .slice ot K kt := hd 3 (by decide);obtain ⟨b, q1, q2, q3⟩ := (show ∃ b, a.eval (.tmp 51) = .slice (some ⟨b, 0, none⟩) 1 1 ∧ wr.heap.size ≤ b ∧ u.heap[b]? = some (.cells #[.int .i64 t] 3 (0, 0)) from hd 9 (by decide));exact FG _ _ rfl (show RW u wb.heap.size (.slice ot K kt) ts from CU) q0 b q1 t q3 Ih.out cA.1.size λv' w' h1 h2 h3 => ⟨v', rfl, h2, h1, h3.imp id λh => ⟨_, h, cA.2.1⟩⟩
        case cO =>
          intro a u hF cA hG;have g2 : RW u wb.heap.size (a.eval (.tmp 44)) (cs ++ [1]) := (hG 2 (by omega)).1;have g10 : RW u wb.heap.size (a.eval (.tmp 52)) (ts ++ [t]) := (hG 10 (by omega)).1;obtain ⟨xl, hxl, rfl, hev⟩ := hF.lit (by simp);obtain ⟨x0, x1, x2, x3, x4, x5, x6, x7, x8, x9, cF, rfl⟩ := Mi hxl;have e2 := hev 2 (by omega);have e10 := hev 10 (by omega);simp only [nP, nQ] at e2 e10;rw [show (42 + 2) = 44 from rfl] at e2;rw [show (42 + 10) = 52 from rfl] at e10;rw [e2] at g2;rw [e10] at g10;have Ik := aa (g2.apart g10 Ii.out Ij.out);have CX : Hid (RW u wb.heap.size x2 ((rn (x.locals.take (j + 1))).map Prod.fst)) := aa (by rw [sV.out.1]; exact g2);have CY : Hid (RW u wb.heap.size cF ((rn (x.locals.take (j + 1))).map Prod.snd)) := aa (by rw [sV.out.2]; exact g10);have xK := aa cA.1;clear hev hxl hF hG g2 g10 e2 e10 cA;simp only [ja, jb, iw, gP, iy, fN];go_wp2;go_roundw
          case rel => exact ⟨j + 1, x2, cF, by omega, rfl, rfl, by go_num, CX, CY, Ik, xK⟩
          case measure => simp [Lib.intOf]; omega
      have jT : R = pre ++ [(c, s)] := by rw [Ms, List.concat_eq_append]
      clear Ms;obtain ⟨K0, wG⟩ : ∃ K0, pre.length = K0 := ⟨_, rfl⟩;have CZ : K = K0 + 1 := by rw [← wF, jT, ← wG]; simp
      have hcs2 : cs = pre.map Prod.fst ++ [c] := by rw [← hcs, jT]; simp
      have FH : ts = pre.map Prod.snd ++ [s] := by rw [← hts, jT]; simp
      obtain ⟨gt, TW, uj, Il, FI, hct, _⟩ := qj.out.cells (by omega);injection uj with TY TZ T9;subst TY;clear TZ T9;obtain ⟨gc, Ua, uk, FJ, FK, hcc, hfc⟩ := mS.out.cells (by omega);injection uk with Ub Uc Ud;subst Ub;clear Uc Ud;have cS := hct K0 s (by rw [FH, uV (by simp [wG])]; simp [wG]);have cC := hcc K0 c (by rw [hcs2, uV (by simp [wG])]; simp [wG]);have fC := hfc K0;have hgg : gt ≠ gc := λe => zZ.out gc rfl (by rw [e]; rfl);have hcb := uT.out (c, s) (by rw [jT]; simp);simp only at hcb;have My := TT hcb;obtain ⟨MB, FL, MC, ME, MF, MH⟩ := TS CZ hKb;clear hct hcc hfc;by_cases hst : s = t
      · subst hst
        have hb2 : (s==s) = true := by simp
        have Im : rn (x.locals.take (j + 1)) = pre ++ [(c + 1, s)] := by rw [sQ.out, jT]; exact MI
        have hl1 : (pre.map Prod.fst).length = K0 := by simp [wG]
        have hgr : wr.grownBy (wr.setCell ⟨gc, K0, none⟩ (.int .i64 (c + 1))) (some gc) := MJ gc [.int .i64 (c + 1)] K0 wr
        have CX : Hid (RW (wr.setCell ⟨gc, K0, none⟩ (.int .i64 (c + 1))) wb.heap.size (.slice (some ⟨gc, 0, none⟩) K kc) ((rn (x.locals.take (j + 1))).map Prod.fst)) := aa (by
          have h1 := mS.out;rw [hcs2, CZ, ← hl1] at h1;have h2 := h1.bump (c + 1);rw [hl1, ← CZ] at h2;rw [Im]; simpa using h2)
        have CY : Hid (RW (wr.setCell ⟨gc, K0, none⟩ (.int .i64 (c + 1))) wb.heap.size (.slice (some ⟨gt, 0, none⟩) K kt) ((rn (x.locals.take (j + 1))).map Prod.snd)) := aa (by
          have h1 := qj.out.grown hgr (C0 λq hq e => by injection e with e; have : gt = q := (by simpa [Value.ownBlock] using hq); omega);rw [FH] at h1;rw [Im]; simpa using h1)
        have xK := aa (sP.out.setCell (p := ⟨gc, K0, none⟩) FJ (.int .i64 (c + 1)));clear hcs hts hcs2 FH jT wF wG CZ Aa Ab sQ uT mS qj Im hl1 hgr hbx;have Io := FE FL;have Ip := FE hgo;have Iq : Hid (wrap64 ((j : Int) + 1) = (j : Int) + 1) := aa (Mj hgo hll);clear hgg FJ FK Il FI CQ CR Mo hll hKb hcb xF;go_wp2_with fail;go_quiet (fail);have Ir := Iq.out;go_wp2;clear MB FL MC ME MF MH Io Ip My hb2;go_roundw
        case rel => exact ⟨j + 1, _, _, by omega, rfl, rfl, by go_num, aa CX.out, aa CY.out, zZ, aa ⟨xK.out.1, xK.out.2, xK.out.3, xK.out.size, xK.out.block⟩⟩
        case measure => exact Mk hgo Ir
      have hb2 : (s==t) = false := by simp [hst]
      have sV : Hid ((rn (x.locals.take (j + 1))).map Prod.fst = cs ++ [1] ∧ (rn (x.locals.take (j + 1))).map Prod.snd = ts ++ [t]) := aa (by rw [sQ.out, ← hcs, ← hts, jT, MK hst]; simp);clear hcs hts hcs2 FH jT wF wG CZ sQ uT;have Ig : Hid (cs.length ≤ 1000000) := aa (by rw [Aa]; exact hKb);have Ih : Hid (ts.length ≤ 1000000) := aa (by rw [Ab]; exact hKb);have Ii : Hid (cs.length = ts.length) := aa (by rw [Aa, Ab]);have Ij : Hid ((1 : Int) ≠ t) := aa (by omega);have hsz : wb.heap.size ≤ wr.heap.size := sP.out.size;have xG : Hid (∀ k, (Value.slice (some ⟨gc, 0, none⟩) K kc).ownBlock = some k → k < wr.heap.size ∧ wb.heap.size ≤ k) := aa λk hk => ⟨(World.ownsRow.lt mS.out k hk).2, (World.ownsRow.lt mS.out k hk).1⟩;have xH : Hid (∀ k, (Value.slice (some ⟨gt, 0, none⟩) K kt).ownBlock = some k → k < wr.heap.size ∧ wb.heap.size ≤ k) := aa λk hk => ⟨(World.ownsRow.lt qj.out k hk).2, (World.ownsRow.lt qj.out k hk).1⟩;have xI := aa (⟨kl, ct⟩ : _ ∧ _);have xJ := aa (⟨CR, CQ, hsz⟩ : _ ∧ _ ∧ _);clear hbx CR CQ hsz hKb xF Aa Ab;have Io := FE FL;have Ip := FE hgo;have Iq : Hid (wrap64 ((j : Int) + 1) = (j : Int) + 1) := aa (Mj hgo hll);clear hgg FJ FK Il FI Mo hll hcb My fC cC;go_wp2_with fail;go_quiet (fail);go_upto_region 9 with fail
      refine ai.CS 11 (λi => 42 + i) (sW (.slice (some ⟨gc, 0, none⟩) K kc) (.slice (some ⟨gt, 0, none⟩) K kt)) (KC wb wr (.slice (some ⟨gc, 0, none⟩) K kc) (.slice (some ⟨gt, 0, none⟩) K kt)) (RC (.slice (some ⟨gc, 0, none⟩) K kc) (.slice (some ⟨gt, 0, none⟩) K kt) cs ts wb.heap.size) (GC wr (.slice (some ⟨gc, 0, none⟩) K kc) (.slice (some ⟨gt, 0, none⟩) K kt) cs ts bF wb.heap.size (.slice (some ⟨bL, aY, none⟩) n kL) bL aY j t) (by kernel_rfl) (by kernel_rfl) (λi j h1 h2 h => by have h' : 42 + i = 42 + j := h; omega) (ai.lJ (size := 80) (by kernel_rfl)) (λi k v u u' hi hk hik _ hG hg => Mv (λk h => (xG.out k h).1) (λk h => (xH.out k h).1) zZ.out i k v u u' hi hik hG hg) (λi k u u' hi hk hik hR hg => Mw zZ.out i k u u' hik hR hg) (λk u u' hk h hg => Mx (λk h => (xG.out k h).2) (λk h => (xH.out k h).2) k u u' h hg) ?hstep ?cO ⟨sP.out.trans ⟨rfl, rfl, rfl, aC _, λ_ _ => rfl⟩, aC _, λ_ _ _ _ => rfl⟩ (λi hi => by
        unfold RC;split
        · exact mS.out
        · exact qj.out
        trivial)
      case hstep =>
        intro i o a u hi ho hF cA CU hd;have f1 : a.tmps[1]?.getD undef = .pointer (some ⟨bF, 0, none⟩) := ai.aB (hF.eval 1 (λi hi => by show 42 + i ≠ 1; omega));have f4 : a.tmps[4]?.getD undef = .slice (some ⟨gc, 0, none⟩) K kc := ai.aB (hF.eval 4 (λi hi => by show 42 + i ≠ 4; omega));have f5 : a.tmps[5]?.getD undef = .slice (some ⟨gt, 0, none⟩) K kt := ai.aB (hF.eval 5 (λi hi => by show 42 + i ≠ 5; omega));have f6 : a.tmps[6]?.getD undef = .int .i64 j := ai.aB (hF.eval 6 (λi hi => by show 42 + i ≠ 6; omega));have kl := FF cA xJ.out.1 (λk h => (xG.out k h).2) (λk h => (xH.out k h).2) xJ.out.2.2 xI.out.1;have ct := FF cA xJ.out.2.1 (λk h => (xG.out k h).2) (λk h => (xH.out k h).2) xJ.out.2.2 xI.out.2;have hcase : i = 0 ∨ i = 1 ∨ i = 2 ∨ i = 3 ∨ i = 4 ∨ i = 5 ∨ i = 6 ∨ i = 7 ∨ i = 8 ∨ i = 9 ∨ i = 10 := by omega
        clear hi;rcases hcase with rfl | rfl | rfl | rfl | rfl | rfl | rfl | rfl | rfl | rfl | rfl
        all_goals (simp only [gz, gU, gV, gN] at ho; subst ho)
        · refine ai.aO λK hK => ?_
          go_simp;exact hK _ _ ⟨_, rfl, rH _ _, rfl⟩
        · refine ai.aO λK hK => ?_
          go_simp;exact hK _ _ ⟨_, rfl, World.grownBy_alloc _ _ _, ⟨_, rfl, cA.2.1, CW _ _⟩⟩
        · have q0 : a.eval (.tmp 42) = .slice (some ⟨gc, 0, none⟩) K kc := hd 0 (by decide)
          obtain ⟨b, q1, q2, q3⟩ := (show ∃ b, a.eval (.tmp 43) = .slice (some ⟨b, 0, none⟩) 1 1 ∧ wr.heap.size ≤ b ∧ u.heap[b]? = some (.cells #[.int .i64 1] 3 (0, 0)) from hd 1 (by decide));exact FG _ _ rfl (show RW u wb.heap.size (.slice (some ⟨gc, 0, none⟩) K kc) cs from CU) q0 b q1 1 q3 Ig.out cA.1.size λv' w' h1 h2 h3 => ⟨v', rfl, h2, h1, h3.imp id λh => ⟨_, h, cA.2.1⟩⟩
        · refine ai.aO λK hK => ?_
          go_simp;exact hK _ _ ⟨_, rfl, rH _ _, rfl⟩
        · refine ai.aO λK hK => ?_
          go_simp;exact hK _ _ ⟨_, rfl, rH _ _, rfl⟩
        · have q0 : a.tmps[46]?.getD undef = .pointer (some ⟨bF, 1, none⟩) := ai.aB (hd 4 (by decide))
          refine ai.aO λK hK => ?_;go_simp;exact hK _ _ ⟨_, rfl, rH _ _, rfl⟩
        · refine ai.aO λK hK => ?_
          go_simp;exact hK _ _ ⟨_, rfl, rH _ _, rfl⟩
        · have q0 : a.tmps[47]?.getD undef = .slice (some ⟨bL, aY, none⟩) n kL := ai.aB (hd 5 (by decide))
          have q1 : a.tmps[48]?.getD undef = .int .i64 j := ai.aB (hd 6 (by decide));refine ai.aO λK hK => ?_;go_simp;exact hK _ _ ⟨_, rfl, rH _ _, rfl⟩
        · have q0 : a.tmps[49]?.getD undef = .pointer (some ⟨bL, aY + j, none⟩) := ai.aB (hd 7 (by decide))
          refine ai.aO λK hK => ?_;go_simp;exact hK _ _ ⟨_, rfl, rH _ _, rfl⟩
        · have q0 : a.tmps[50]?.getD undef = .int .i64 t := ai.aB (hd 8 (by decide))
          refine ai.aO λK hK => ?_;go_simp;exact hK _ _ ⟨_, rfl, World.grownBy_alloc _ _ _, ⟨_, rfl, cA.2.1, CW _ _⟩⟩
        have q0 : a.eval (.tmp 45) = .slice (some ⟨gt, 0, none⟩) K kt := hd 3 (by decide);obtain ⟨b, q1, q2, q3⟩ := (show ∃ b, a.eval (.tmp 51) = .slice (some ⟨b, 0, none⟩) 1 1 ∧ wr.heap.size ≤ b ∧ u.heap[b]? = some (.cells #[.int .i64 t] 3 (0, 0)) from hd 9 (by decide));exact FG _ _ rfl (show RW u wb.heap.size (.slice (some ⟨gt, 0, none⟩) K kt) ts from CU) q0 b q1 t q3 Ih.out cA.1.size λv' w' h1 h2 h3 => ⟨v', rfl, h2, h1, h3.imp id λh => ⟨_, h, cA.2.1⟩⟩
      case cO =>
        intro a u hF cA hG;have g2 : RW u wb.heap.size (a.eval (.tmp 44)) (cs ++ [1]) := (hG 2 (by omega)).1;have g10 : RW u wb.heap.size (a.eval (.tmp 52)) (ts ++ [t]) := (hG 10 (by omega)).1;obtain ⟨xl, hxl, rfl, hev⟩ := hF.lit (by simp);obtain ⟨x0, x1, x2, x3, x4, x5, x6, x7, x8, x9, cF, rfl⟩ := Mi hxl;have e2 := hev 2 (by omega);have e10 := hev 10 (by omega);simp only [nP, nQ] at e2 e10;rw [show (42 + 2) = 44 from rfl] at e2;rw [show (42 + 10) = 52 from rfl] at e10;rw [e2] at g2;rw [e10] at g10;have Ik := aa (g2.apart g10 Ii.out Ij.out);have CX : Hid (RW u wb.heap.size x2 ((rn (x.locals.take (j + 1))).map Prod.fst)) := aa (by rw [sV.out.1]; exact g2);have CY : Hid (RW u wb.heap.size cF ((rn (x.locals.take (j + 1))).map Prod.snd)) := aa (by rw [sV.out.2]; exact g10);have xK := aa cA.1;clear hev hxl hF hG g2 g10 e2 e10 cA;simp only [ja, jb, iw, gP, iy, fN];have Ir := Iq.out;clear MB FL MC ME MF MH Io Ip hb2 hst;go_wp2;go_roundw
        case rel => exact ⟨j + 1, x2, cF, by omega, rfl, rfl, by go_num, CX, CY, Ik, xK⟩
        case measure => exact Mk hgo Ir
    obtain rfl : n = j := by omega
    have hP := dx.out.on sP.out;have ML : Hid (bF ≠ bF + 1 ∧ bF < wr.heap.size) := aa ⟨by omega, by have := sP.out.size; omega⟩;have Ue := aa hbx;clear hbx;obtain ⟨R, hR⟩ : ∃ R, rn x.locals = R := ⟨_, rfl⟩;rw [qm (by have := CP.out; omega), hR] at mS qj;have hKb : R.length ≤ 1000000 := by have := (zY x.locals).1; rw [hR] at this; have := CP.out; omega
    have uT : Hid (∀ y ∈ R, 1 ≤ y.1 ∧ y.1 ≤ 1000000) := aa λy hy => by
      have h1 := (zY x.locals).2 y (by rw [hR]; exact hy);have h2 := h1.2.1;have h3 := CP.out;exact ⟨h1.1, by omega⟩
    obtain ⟨oc, kc, rfl⟩ := mS.out.slice;obtain ⟨ot, kt, rfl⟩ := qj.out.slice;have MN : ∀ (i : Nat) (y : Int × Int), R[i]? = some y → (R.map Prod.fst)[i]? = some y.1 := λi y h => by rw [List.getElem?_map, h]; rfl
    have MO : ∀ (i : Nat) (y : Int × Int), R[i]? = some y → (R.map Prod.snd)[i]? = some y.2 := λi y h => by rw [List.getElem?_map, h]; rfl
    have Uf : Hid (0 < R.length → ∃ gc gt, oc = some ⟨gc, 0, none⟩ ∧ ot = some ⟨gt, 0, none⟩ ∧ bF + 1 < gc ∧ bF + 1 < gt ∧ gc < wr.heap.size ∧ gt < wr.heap.size ∧ ∀ (i : Nat) (y : Int × Int), R[i]? = some y → wr.cell? ⟨gc, i, none⟩ = some (.int .i64 y.1) ∧ wr.cell? ⟨gt, i, none⟩ = some (.int .i64 y.2)) := aa λh0 => by
      obtain ⟨gt, TW, uj, Il, FI, hct, _⟩ := qj.out.cells (by simpa using h0);obtain ⟨gc, Ua, uk, FJ, FK, hcc, _⟩ := mS.out.cells (by simpa using h0);injection uj with uj _ _;injection uk with uk _ _;exact ⟨gc, gt, uk, uj, by omega, by omega, FK, FI, λi y h => ⟨hcc i _ (MN i y h), hct i _ (MO i y h)⟩⟩
    simp only [jS] at *;have MP : Hid (cQ x = af.uB (R.length : Int) ++ (R.flatMap λy => af.uB y.1 ++ [y.2 % 256]) ++ (aW d x.body ++ [11])) := aa (by unfold cQ wH; rw [hR]);have HC := aa (dU w (bF + 1) false (.slice none 0 0) [] [] (R.length : Int) wr hP St.nil (by omega) (by omega));rw [fN] at HC;clear dx mS qj zZ MN MO hP hR bI HL Ml;generalize wF : R.length = K at *;have xI := aa wF;clear wF;obtain ⟨u0, hu0⟩ : ∃ u0, af.uB (K : Int) = u0 := ⟨_, rfl⟩;rw [hu0] at HC MP;clear hu0;go_wp2_with fail;refine HC.out.mono ?_;rintro e w1 ⟨cf, v1, b1, rfl, h1, s1, k1⟩;have uW := aa h1;have uX := aa s1;have bJ := aa k1;clear h1 s1 k1 HC;go_wp2_with fail;go_loopw [8] (λi w2 => ∃ (j2 : Nat) (aV : Bool) (v3 : Value) (b3 : List Int), j2 ≤ K ∧ i = .int .i64 j2 ∧ Hid (PS w (bF + 1) aV v3 b3 w2) ∧ Hid (St (u0 ++ (R.take j2).flatMap λy : Int × Int => af.uB y.1 ++ [y.2 % 256]) aV b3) ∧ Hid (Kept (bF + 1) (.slice none 0 0) wr v3 w2)) (λi _ => K - (Lib.intOf i).toNat)
    case atStart => exact ⟨0, cf, v1, b1, by omega, rfl, uW, aa (by simpa using uX.out), bJ⟩
    case round =>
      clear uW uX bJ;obtain ⟨j2, aV, v3, b3, hj2, rfl, gQ, HST, oF⟩ := hrel;by_cases afh : j2 < K
      · obtain ⟨gc, gt, rfl, rfl, g1, g2, g3, g4, hcell⟩ := Uf.out (by have := xI.out; omega)
        obtain ⟨y, hyk⟩ : ∃ y, R[j2]? = some y := ⟨_, bG (by have := xI.out; omega)⟩;obtain ⟨mr, mU⟩ := hcell j2 y hyk;have hyb := uT.out y (iF hyk);have jI : Hid ((R.take (j2 + 1)).flatMap (λy : Int × Int => af.uB y.1 ++ [y.2 % 256]) = (R.take j2).flatMap (λy : Int × Int => af.uB y.1 ++ [y.2 % 256]) ++ (af.uB y.1 ++ [y.2 % 256])) := aa (um hyk);have HG := aa (⟨g1, g2, g3, g4, mr, mU⟩ : _ ∧ _ ∧ _ ∧ _ ∧ _ ∧ _);have hbc := oF.out.block gc g3 (by omega) (by simp [Value.ownBlock]);have FM := (World.cell?_of_block (a := ⟨gc, j2, none⟩) hbc).trans mr;obtain ⟨y0, y1⟩ := y;simp only at FM hyb;clear hcell hyk hbc mr mU g1 g2 g3 g4;have HC := aa (dU w (bF + 1) aV v3 b3 _ y0 _ gQ.out HST.out (by omega) (by omega));go_wp2_with fail;refine HC.out.mono ?_;rintro e w4 ⟨cZ, v4, b4, rfl, h4, s4, k4⟩;have bP := aa h4;have jc := aa s4;have fW := aa (oF.out.trans k4);clear h4 s4 k4 HC FM;have hbt := fW.out.block gt HG.out.2.2.2.1 (by have := HG.out.2.1; omega) (by simp [Value.ownBlock]);have Iu := (World.cell?_of_block (a := ⟨gt, j2, none⟩) hbt).trans HG.out.2.2.2.2.2;clear hbt;have HC := aa (dh w (bF + 1) cZ v4 b4 _ y1 w4 bP.out jc.out);go_wp2_with fail;refine HC.out.mono ?_;rintro e w5 ⟨gA, v5, b5, rfl, h5, s5, k5⟩;have bY := aa h5;have lV : Hid (St (u0 ++ (R.take (j2 + 1)).flatMap λy : Int × Int => af.uB y.1 ++ [y.2 % 256]) gA b5) := aa (by rw [jI.out]; simpa [bw] using s5);have kH := aa (fW.out.trans k5);clear h5 s5 k5 HC Iu;go_wp2;go_roundw
        case rel => exact ⟨j2 + 1, gA, v5, b5, by omega, by go_num, bY, lV, kH⟩
        case measure => simp [Lib.intOf]; omega
      obtain rfl : K = j2 := by omega
      have hbf := oF.out.block bF ML.out.2 ML.out.1 (by simp [Value.ownBlock]);have kb := (World.cell?_of_block (a := ⟨bF, 2, none⟩) hbf).trans (Ue.out.cell 2 _ rfl);clear hbf;have jJ : Hid (St (u0 ++ R.flatMap λy : Int × Int => af.uB y.1 ++ [y.2 % 256]) aV b3) := aa (by have h1 := HST.out; rw [qm (by have := xI.out; omega)] at h1; exact h1);have HC := aa (Ug w (bF + 1) d _ x.body aV v3 b3 _ _ gQ.out jJ.out HB.out HR.out);go_wp2_with fail;refine HC.out.mono ?_;rintro e w5 ⟨gA, v5, b5, rfl, h5, s5, k5⟩;have HF := aa (⟨h5, by rw [MP.out]; exact s5⟩ : PS w (bF + 1) gA v5 b5 w5 ∧ St (cQ x) gA b5);clear h5 s5 k5 HC kb;go_wp2;go_ret;exact ⟨_, _, _, _, rfl, HF.out.1, HF.out.2⟩
end Go.Proofs.YtcfifbgemfladaaGreatDoor
