/- Texts that the claim needs. -/
import Derived.Test.YtkdbgopgjbfhbaaGreatDoorQPW38
import Derived.Test.YtkdbgopgjbfhbaaGreatDoorQPW34
namespace Go.Proofs.YtkdbgopgjbfhbaaGreatDoor
open Go.RowKit Lx Pz bq
set_option linter.unusedVariables false
set_option maxRecDepth 100000
set_option maxHeartbeats 32000000
namespace Pz
def Vf:Value->Int
 | .agg c=>match (c:Array Value)[3]? with
  | some (Value.int _ a)=>a
  | _=>0
 | _=>0
theorem rL {n l:Nat} (h:n<l) (hw:wrap64 ((n:Int)+1)=((n+1:Nat):Int)):l-(wrap64 ((n:Int)+1)).toNat<l-n:=by
 rw [hw];omega
def nS (pl:Bool) (d:Nat) (a b:Value):Bool:=decide (wM a=wM b) && ((!pl || (Vf a == Vf b)) && (dL (fun x y=>decide (x=y)) ((CH a).map wO) ((CH b).map wO) && dL (nK d) (uB a) (uB b)))
def D9 (pl:Bool) (d dt:Nat) (ds ks:List Value) (a b:Value):Bool:=dL (nS pl dt) ds ks && sm pl d a b
end Pz
theorem abX (pl : Bool) (m : Nat) (ds ks : List Value) (vl vk : Value) (w : World) (hf : ∀ c ∈ ds, wN m c) (h : mL 0 vl ds w) (hk : mL 0 vk ks w) : Calls Tryz.prog 32 #[vl, vk, .bool pl] w fun e w' => e = .returned (.bool (dL (nS pl m) ds ks)) ∧ Below w.heap.size w w' := by
  obtain ⟨oR, cR, rfl, hel⟩ := cF h;obtain ⟨oS, cS, rfl, hes⟩ := cF hk;obtain ⟨R, hR⟩ : ∃ R, R = dL (nS pl m) ds ks := ⟨_, rfl⟩;rw [← hR];by_cases hlen : ds.length = ks.length
  · have st0 : Hid (dL (nS pl m) (ds.drop 0) (ks.drop 0) = R) := ae (by rw [hR]; rfl)
    have HL := ae h.1;have iT := ae hel;have uF := ae hes;have rU := ae hlen;have yM := ae hf;rw [← hlen];clear hR h hk hel hes hlen hf;go_enter Tryz.func32, Tryz.ntmps32;go_wp2_with fail;go_loopw [7] (fun a wr => ∃ i : Nat, a = .int .i64 i ∧ i ≤ ds.length ∧ Hid (dL (nS pl m) (ds.drop i) (ks.drop i) = R) ∧ Hid (Below w.heap.size w wr)) (fun a _ => match a with | .int _ i => ds.length - i.toNat | _ => 0)
    case atStart => exact ⟨0, rfl, Nat.zero_le _, st0, ae (Below.refl _ _)⟩
    case round =>
      obtain ⟨i, rfl, hi, HN, HB2⟩ := hrel;clear st0;by_cases hp : i < ds.length
      · obtain ⟨t1, ht1⟩ : ∃ t1, ds[i]? = some t1 := ⟨_, List.getElem?_eq_getElem hp⟩
        obtain ⟨t2, ht2⟩ : ∃ t2, ks[i]? = some t2 := ⟨_, List.getElem?_eq_getElem (by have := rU.out; omega)⟩;obtain ⟨b, off, gH, hC⟩ := iT.out i t1 ht1;obtain ⟨b2, bU, yN, hD⟩ := uF.out i t2 ht2;subst gH;subst yN;obtain ⟨px, pu, pz, pa, ps, cs, h0, p1, p2, p3, p4, _, _, hS1, ME⟩ := LF hC;obtain ⟨qx, qu, qz, qa, gA, jI, h02, q1, q2, q3, q4, _, _, jr, Ap⟩ := LF hD;obtain ⟨oP, cP, rfl, hpe⟩ := cF hS1;obtain ⟨oQ, cQ, rfl, Vg⟩ := cF jr;obtain ⟨oC, cC, rfl, hce⟩ := cF ME;obtain ⟨oD, cD, rfl, hde⟩ := cF Ap;rw [List.length_map] at p2 q2;have y0 := ai HB2.out p1;have y1 := ai HB2.out p2;have y2 := ai HB2.out p3;have y3 := ai HB2.out p4;have x0 := ai HB2.out q1;have x1 := ai HB2.out q2;have x2 := ai HB2.out q3;have x3 := ai HB2.out q4;have hfit := yM.out t1 (List.mem_of_getElem? ht1);rw [h0] at hfit;have hd := wm (f := nS pl m) ht1 ht2;rw [HN.out] at hd
        have hsm : nS pl m t1 t2 = (decide (px = qx) && ((!pl || (pa == qa)) && (dL (fun x y => decide (x = y)) ps gA && dL (nK m) cs jI))) := by
          rw [h0, h02];show (decide (px = qx) && ((!pl || (pa == qa)) && (dL _ ((ps.map Value.string).map wO) ((gA.map Value.string).map wO) && _))) = _;rw [Pk, Pk]; rfl
        rw [hsm] at hd;have HD := ae hd;have Vh := ae hpe;have Vi := ae Vg;have Vj := ae hce;have Vk := ae hde;have zl : Hid (ps.length ≤ 9223372036854775807) := ae (by have := hS1.1; simpa using this);have GZ := ae ME.1;have Vl : Hid (∀ c ∈ cs, Jn m c) := ae hfit;have w1 : decide ((i : Int) < (ds.length : Int)) = true := decide_eq_true (by omega);have hw1 := wo hp HL.out;have hik : i < ds.length := hp;clear hC hD p1 q1 p2 q2 p3 q3 p4 q4 ht1 ht2 HN hd hsm hfit h0 h02 hS1 jr ME Ap hpe Vg hce hde;go_upto_region 6 with fail;refine aj.CX (Z := Zt) (none, none) 12 118 (fun i => if i < 8 then 23 + i else if i = 8 then 8 else if i = 9 then 9 else 23 + i) [10, 11] [8, 9, 10, 11] (dY wr.heap.size 62 #[.string px, .slice oP ps.length cP, .slice oC cs.length cC, .int .i64 pa] #[.string qx, .slice oQ gA.length cQ, .slice oD jI.length cD, .int .i64 qa]) (yX wr.heap.size wr) (fun _ _ _ => True) (dN 62 uu #[.string px, .slice oP ps.length cP, .slice oC cs.length cC, .int .i64 pa] #[.string qx, .slice oQ gA.length cQ, .slice oD jI.length cD, .int .i64 qa] [.slice (some ⟨b, off, none⟩) ds.length cR, .int .i64 (i : Int), .pointer (some ⟨b, off + i * 4, none⟩), .agg #[.string px, .slice oP ps.length cP, .slice oC cs.length cC, .int .i64 pa], .slice (some ⟨b2, bU, none⟩) ds.length cS, .int .i64 (i : Int), .pointer (some ⟨b2, bU + i * 4, none⟩), .agg #[.string qx, .slice oQ gA.length cQ, .slice oD jI.length cD, .int .i64 qa]]) (by kernel_rfl) (by kernel_rfl) (by kernel_rfl) (by kernel_rfl) rfl ?hN ?mg (fun _ _ _ _ _ _ _ _ _ _ _ _ _ => trivial) (fun k z z' u u' hk hK hT => hK.step hk hT) ?hstep ?hend ⟨iF _, fun _ h => (by cases h), fun _ h => (by cases h), fun _ _ h => (by cases h), Nat.le_refl _⟩ (fun _ _ => trivial)
        case hN => exact fun i hi z v v' u h => h.st (by simpa using hi)
        case mg =>
          intro i k v z z' u u' hi hk hne hcl _ hK hG hT;refine hG.Jt hk hne (fun e e2 => ?_) (fun e e2 => ?_) hK hT
          · subst e; subst e2; exact absurd hcl (by decide)
          · subst e; subst e2; exact absurd hcl (by decide)
        case hstep =>
          intro j o a z u hj ho hF hK hR hd;have f0 : a.tmps[0]?.getD undef = .slice (some ⟨b, off, none⟩) ds.length cR := aj.ay (hF.eval 0 (fun i hi => qX 23 i 0 (by decide) (by decide) hi));have f1 : a.tmps[1]?.getD undef = .slice (some ⟨b2, bU, none⟩) ds.length cS := aj.ay (hF.eval 1 (fun i hi => qX 23 i 1 (by decide) (by decide) hi));have f7 : a.tmps[7]?.getD undef = .int .i64 (i : Int) := aj.ay (hF.eval 7 (fun i hi => qX 23 i 7 (by decide) (by decide) hi));have HK := ae hK;have y0 := ai hK.eG y0;have x0 := ai hK.eG x0;have y1 := ai hK.eG y1;have x1 := ai hK.eG x1;have y2 := ai hK.eG y2;have x2 := ai hK.eG x2;have y3 := ai hK.eG y3;have x3 := ai hK.eG x3;have hcase : j = 0 ∨ j = 1 ∨ j = 2 ∨ j = 3 ∨ j = 4 ∨ j = 5 ∨ j = 6 ∨ j = 7 ∨ j = 8 ∨ j = 9 ∨ j = 10 ∨ j = 11 := by omega
          clear hj hR hK;rcases hcase with rfl | rfl | rfl | rfl | rfl | rfl | rfl | rfl | rfl | rfl | rfl | rfl
          all_goals (simp only [List.getElem?_toArray, List.getElem?_cons_succ, List.getElem?_cons_zero, Option.some.injEq] at ho; subst ho; refine aj.bB fun K ax => ?_)
          · skip
            go_simp;exact ax _ _ ⟨_, z, rfl, dY.rd (by decide), dN.rd (by decide) rfl⟩
          · skip
            go_simp;exact ax _ _ ⟨_, z, rfl, dY.rd (by decide), dN.rd (by decide) rfl⟩
          · have q0 : a.tmps[23]?.getD undef = _ := aj.ay ((hd 0 (by decide)).1 (by decide))
            have q1 : a.tmps[24]?.getD undef = _ := aj.ay ((hd 1 (by decide)).1 (by decide));simp only [List.getD_cons_succ, List.getD_cons_zero] at q0 q1;go_simp;exact ax _ _ ⟨_, z, rfl, dY.rd (by decide), dN.rd (by decide) rfl⟩
          · have q2 : a.tmps[25]?.getD undef = _ := aj.ay ((hd 2 (by decide)).1 (by decide))
            simp only [List.getD_cons_succ, List.getD_cons_zero] at q2;go_simp;exact ax _ _ ⟨_, z, rfl, dY.rd (by decide), dN.rd (by decide) rfl⟩
          · skip
            go_simp;exact ax _ _ ⟨_, z, rfl, dY.rd (by decide), dN.rd (by decide) rfl⟩
          · skip
            go_simp;exact ax _ _ ⟨_, z, rfl, dY.rd (by decide), dN.rd (by decide) rfl⟩
          · have q4 : a.tmps[27]?.getD undef = _ := aj.ay ((hd 4 (by decide)).1 (by decide))
            have q5 : a.tmps[28]?.getD undef = _ := aj.ay ((hd 5 (by decide)).1 (by decide));simp only [List.getD_cons_succ, List.getD_cons_zero] at q4 q5;go_simp;exact ax _ _ ⟨_, z, rfl, dY.rd (by decide), dN.rd (by decide) rfl⟩
          · have q6 : a.tmps[29]?.getD undef = _ := aj.ay ((hd 6 (by decide)).1 (by decide))
            simp only [List.getD_cons_succ, List.getD_cons_zero] at q6;go_simp;exact ax _ _ ⟨_, z, rfl, dY.rd (by decide), dN.rd (by decide) rfl⟩
          · go_simp
            exact ax _ _ ⟨_, (some u.heap.size, z.2), rfl, dY.yY HK.out.sz _, dN.yY _ rfl⟩
          · go_simp
            exact ax _ _ ⟨_, (z.1, some u.heap.size), rfl, dY.yZ HK.out.sz _, dN.yZ _ rfl⟩
          · obtain ⟨b9, k1, k2, k3⟩ := (hd 8 (by decide)).2.1 rfl
            have q : a.eval (.tmp 26) = .agg #[.string px, .slice oP ps.length cP, .slice oC cs.length cC, .int .i64 pa] := (hd 3 (by decide)).1 (by decide);obtain ⟨W, hW, hth, hbw, hb1, hb2⟩ := A7 (zc := uu) (C := #[.string px, .slice oP ps.length cP, .slice oC cs.length cC, .int .i64 pa]) (TY := 62) (HK.out.a b9 k1).1 rfl k3;refine wp_store_mid 62 (.tmp 8) (.tmp 26) rfl b9 0 #[.string px, .slice oP ps.length cP, .slice oC cs.length cC, .int .i64 pa] k2 q hth BS (by simp [Value.oneCell']) ?_;rw [hW];exact ax _ _ ⟨undef, z, rfl, dY.y8 k1 hbw hb1 hb2, dN.y8 k1 hb1⟩
          · obtain ⟨b9, k1, k2, k3⟩ := (hd 9 (by decide)).2.2.1 rfl
            have q : a.eval (.tmp 30) = .agg #[.string qx, .slice oQ gA.length cQ, .slice oD jI.length cD, .int .i64 qa] := (hd 7 (by decide)).1 (by decide);obtain ⟨W, hW, hth, hbw, hb1, hb2⟩ := A7 (zc := uu) (C := #[.string qx, .slice oQ gA.length cQ, .slice oD jI.length cD, .int .i64 qa]) (TY := 62) (HK.out.b b9 k1).1 rfl k3;refine wp_store_mid 62 (.tmp 9) (.tmp 30) rfl b9 0 #[.string qx, .slice oQ gA.length cQ, .slice oD jI.length cD, .int .i64 qa] k2 q hth BS (by simp [Value.oneCell']) ?_;rw [hW];exact ax _ _ ⟨undef, z, rfl, dY.za k1 hbw hb1 hb2, dN.za k1 hb1⟩
        case hend =>
          intro a z u hF hK hn;obtain ⟨c1, e1, h1, _⟩ := (hn 8 (by simp) (by decide)).2.1 rfl;obtain ⟨c2, e2, h1', _⟩ := (hn 9 (by simp) (by decide)).2.2.1 rfl;obtain ⟨c1', sQ, h3⟩ := (hn 10 (by simp) (by decide)).2.2.2.1 rfl;obtain ⟨c2', e2', h3'⟩ := (hn 11 (by simp) (by decide)).2.2.2.2 rfl;obtain rfl : c1' = c1 := by rw [e1] at sQ; exact (Option.some.inj sQ).symm
          obtain rfl : c2' = c2 := by rw [e2] at e2'; exact (Option.some.inj e2').symm
          have fH := ae (aB HB2.out hK.eG);have H3 := ae h3;have gJ := ae h3'
          obtain ⟨xl, hxl, rfl, hev⟩ := (aj.Fr.two (s1 := 8) (s2 := 9) (lo := 23) (n := 12) hF h1 h1' (by simp) (fun k e1 e2 e3 i hi => qX 23 i k (by decide) ⟨e1, e2, by
            rcases Nat.lt_or_ge k 23 with h | h
            · exact .inl h
            · refine .inr (Nat.le_of_not_lt fun hl => e3 (k - 23) (by omega) (by omega))⟩ hi)).lit (by simp)
          obtain ⟨x0, x1, x2, x3, x4, x5, x6, x7, x8, x9, gD, iD, rfl⟩ : ∃ x0 x1 x2 x3 x4 x5 x6 x7 x8 x9 gD iD, xl = [x0, x1, x2, x3, x4, x5, x6, x7, x8, x9, gD, iD] := by
            match xl, hxl with
            | [x0, x1, x2, x3, x4, x5, x6, x7, x8, x9, gD, iD], _ => exact ⟨x0, x1, x2, x3, x4, x5, x6, x7, x8, x9, gD, iD, rfl⟩
          clear hev hxl hF hn hK h1 h1' h3 h3' e1 e2 sQ e2';simp only [List.set_cons_succ, List.set_cons_zero, List.take_succ_cons, List.take_zero, List.drop_succ_cons, List.drop_zero, List.cons_append, List.nil_append];have c0 := ak H3.out 0 _ rfl;have d0 := ak gJ.out 0 _ rfl;have c1 := ak H3.out 1 _ rfl;have d1 := ak gJ.out 1 _ rfl;have c2 := ak H3.out 2 _ rfl;have d2 := ak gJ.out 2 _ rfl;have c3 := ak H3.out 3 _ rfl;have d3 := ak gJ.out 3 _ rfl;cases q0 : decide (px = qx) with
          | false =>
            have s0 : (px.toList == qx.toList) = false := by rw [str_eq, q0]
            have r0 : (px.toList != qx.toList) = true := by rw [bne, s0]; rfl
            have HS : Hid (R = false) := ae (by rw [HD.out, q0]; simp);clear HD;go_wp2;go_ret;exact ⟨bf HS.out.symm, fH.out⟩
          | true =>
            have s0 : (px.toList == qx.toList) = true := by rw [str_eq, q0]
            have r0 : (px.toList != qx.toList) = false := by rw [bne, s0]; rfl
            rw [q0, Bool.true_and] at HD;cases pl with
            | false =>
              rw [Bool.not_false, Bool.true_or, Bool.true_and] at HD;by_cases hl1 : ps.length = gA.length
              · by_cases hl2 : cs.length = jI.length
                · have vO := ae hl1
                  have vQ := ae hl2;rw [← hl1] at d1;rw [← hl2] at d2;obtain ⟨rest, hrest⟩ : ∃ r, r = dL (nS false m) (ds.drop (i + 1)) (ks.drop (i + 1)) := ⟨_, rfl⟩;obtain ⟨RC, nV⟩ : ∃ r, r = (dL (nK m) cs jI && rest) := ⟨_, rfl⟩;have hD0 := HD.out;rw [← hrest, Bool.and_assoc, ← nV] at hD0;have MF := ae hrest;have st1 : Hid ((dL (fun x y => decide (x = y)) (ps.drop 0) (gA.drop 0) && RC) = R) := ae hD0.symm;have Aj := ae nV;have BB : Hid (Below u.heap.size u u) := ae (Below.refl _ _);clear hD0 HD hrest nV hl1 hl2;go_wp2_with fail;clear c0 d0 c1 d1 c2 d2 c3 d3;go_loopw [10] (fun a wr => ∃ j : Nat, a = .int .i64 j ∧ j ≤ ps.length ∧ Hid ((dL (fun x y => decide (x = y)) (ps.drop j) (gA.drop j) && RC) = R) ∧ Hid (Below u.heap.size u wr)) (fun a _ => match a with | .int _ j => ps.length - j.toNat | _ => 0)
                  case atStart => exact ⟨0, rfl, Nat.zero_le _, st1, BB⟩
                  case round =>
                    obtain ⟨j, rfl, hj, HN, bb⟩ := hrel;clear st1 BB;have k3 := (bb.out.block _ (Array.getElem?_eq_some_iff.1 H3.out).1).trans H3.out;have jo := (bb.out.block _ (Array.getElem?_eq_some_iff.1 gJ.out).1).trans gJ.out;have c1 := ak k3 1 _ rfl;have d1 := ak jo 1 _ rfl;rw [← vO.out] at d1;have iE := ae (aB fH.out bb.out);by_cases nW : j < ps.length
                    · obtain ⟨s1, hs1⟩ : ∃ s1, ps[j]? = some s1 := ⟨_, List.getElem?_eq_getElem nW⟩
                      obtain ⟨s2, hs2⟩ : ∃ s2, gA[j]? = some s2 := ⟨_, List.getElem?_eq_getElem (by have := vO.out; omega)⟩;obtain ⟨g, go, MG, hg⟩ := Vh.out j (.string s1) (by rw [List.getElem?_map, hs1]; rfl);obtain ⟨g2, go2, MH, hg2⟩ := Vi.out j (.string s2) (by rw [List.getElem?_map, hs2]; rfl);subst MG;subst MH;have e1 := ai iE.out hg.2;have e2 := ai iE.out hg2.2;rw [Nat.mul_one] at e1 e2;have v1 : decide ((j : Int) < (ps.length : Int)) = true := decide_eq_true (by omega);have nX := wo nW zl.out;have hdj := wm (f := fun x y => decide (x = y)) hs1 hs2;have nY := HN.out;rw [hdj, Bool.and_assoc] at nY;have hin : j < gA.length := by have := vO.out; omega
                      have HEq : Hid ((s1.toList == s2.toList) = decide (s1 = s2)) := ae (str_eq s1 s2);generalize decide (s1 = s2) = Bt at *;have iY := ae nY;clear hg hg2 hs1 hs2 HN hdj nY k3 jo;go_upto_region 12 with fail;refine aj.kT 11 71 118 [.pointer (some ⟨c1', 1, none⟩), .slice (some ⟨g, go, none⟩) ps.length cP, .int .i64 (j : Int), .pointer (some ⟨g, go + j, none⟩), .string s1, .pointer (some ⟨c2', 1, none⟩), .slice (some ⟨g2, go2, none⟩) ps.length cQ, .int .i64 (j : Int), .pointer (some ⟨g2, go2 + j, none⟩), .string s2, .bool (!Bt)] (by kernel_rfl) (by kernel_rfl) (by kernel_rfl) rfl ?hstep ?hend
                      case hstep =>
                        intro q o a v hq ho hF hB hd;have f8 : a.tmps[8]?.getD undef = .pointer (some ⟨c1', 0, none⟩) := aj.ay (hF.eval 8 (fun i hi => by show 71 + i ≠ 8; omega));have f9 : a.tmps[9]?.getD undef = .pointer (some ⟨c2', 0, none⟩) := aj.ay (hF.eval 9 (fun i hi => by show 71 + i ≠ 9; omega));have f10 : a.tmps[10]?.getD undef = .int .i64 (j : Int) := aj.ay (hF.eval 10 (fun i hi => by show 71 + i ≠ 10; omega));have e1 := ai hB e1;have e2 := ai hB e2;have c1 := ai hB c1;have d1 := ai hB d1;have he := HEq.out
                        iterate 11 (rcases Nat.lt_succ_iff_lt_or_eq.1 hq with hq | rfl)
                        exact absurd hq (Nat.not_lt_zero _)
                        all_goals (
                          simp only [List.getElem?_toArray, List.getElem?_cons_succ, List.getElem?_cons_zero, Option.some.injEq] at ho;subst ho;refine aj.Does.go rfl (aj.bB fun K hK => ?_);simp [aj.deps, Region.binds] at hd;go_simp
                          first | exact hK _ _ ⟨_, rfl, Below.refl _ _, rfl⟩ | exact hK _ _ ⟨_, rfl, Below.refl _ _, by simp [aj.iH, he]⟩)
                      case hend =>
                        intro a v hF hB hG;have fF := ae (aB bb.out hB);have oI := ae (aB iE.out hB);obtain ⟨xl, hxl, rfl, hev⟩ := hF.lit (by simp);obtain rfl := aj.kS hxl (L := [.pointer (some ⟨c1', 1, none⟩), .slice (some ⟨g, go, none⟩) ps.length cP, .int .i64 (j : Int), .pointer (some ⟨g, go + j, none⟩), .string s1, .pointer (some ⟨c2', 1, none⟩), .slice (some ⟨g2, go2, none⟩) ps.length cQ, .int .i64 (j : Int), .pointer (some ⟨g2, go2 + j, none⟩), .string s2, .bool (!Bt)]) rfl (fun i hi => by rw [← hev i hi]; exact hG i hi);clear hev hxl hF hG hB e1 e2 c1 d1 HEq;simp only [List.take_succ_cons, List.take_zero, List.drop_succ_cons, List.drop_zero, List.cons_append, List.nil_append];cases Bt with
                        | false =>
                          have HS : Hid (R = false) := ae (by rw [← iY.out]; rfl);clear iY;go_wp2;go_ret;exact ⟨bf HS.out.symm, oI.out⟩
                        | true =>
                          have HS : Hid ((dL (fun x y => decide (x = y)) (ps.drop (j + 1)) (gA.drop (j + 1)) && RC) = R) := ae (by rw [← iY.out]; rfl);clear iY;go_wp2;go_roundw
                          case rel => exact ⟨j + 1, by first | rfl | (congr 1), nW, HS, fF⟩
                          case measure => first | exact rL nW nX | (simp; exact rL nW nX)
                    · have v1 : decide ((j : Int) < (ps.length : Int)) = false := decide_eq_false (by omega)
                      have hRR : RC = R := by
                        have := HN.out;rw [wu (by omega) (by have := vO.out; omega), Bool.true_and] at this;exact this
                      have st2 : Hid ((dL (nK m) (cs.drop 0) (jI.drop 0) && rest) = R) := ae (by rw [← hRR]; exact Aj.out.symm);have c2 := ak k3 2 _ rfl;have d2 := ak jo 2 _ rfl;have BB := ae bb.out;clear HN hRR Aj k3 jo iE;go_wp2_with fail;clear c1 d1 c2 d2 bb;go_loopw [11] (fun a wr => ∃ j : Nat, a = .int .i64 j ∧ j ≤ cs.length ∧ Hid ((dL (nK m) (cs.drop j) (jI.drop j) && rest) = R) ∧ Hid (Below u.heap.size u wr)) (fun a _ => match a with | .int _ j => cs.length - j.toNat | _ => 0)
                      case atStart => exact ⟨0, rfl, Nat.zero_le _, st2, BB⟩
                      case round =>
                        obtain ⟨n, rfl, hn, HN, bb⟩ := hrel;clear st2 BB;have k3 := (bb.out.block _ (Array.getElem?_eq_some_iff.1 H3.out).1).trans H3.out;have jo := (bb.out.block _ (Array.getElem?_eq_some_iff.1 gJ.out).1).trans gJ.out;have c2 := ak k3 2 _ rfl;have d2 := ak jo 2 _ rfl;rw [← vQ.out] at d2;have iE := ae (aB fH.out bb.out);by_cases hpn : n < cs.length
                        · obtain ⟨s1, hs1⟩ : ∃ s1, cs[n]? = some s1 := ⟨_, List.getElem?_eq_getElem hpn⟩
                          obtain ⟨s2, hs2⟩ : ∃ s2, jI[n]? = some s2 := ⟨_, List.getElem?_eq_getElem (by have := vQ.out; omega)⟩;obtain ⟨g, go, Em, hg⟩ := Vj.out n s1 hs1;obtain ⟨g2, go2, Bz, hg2⟩ := Vk.out n s2 hs2;subst Em;subst Bz;obtain ⟨kx, ku, ts, h0, e1, e2, _, dT, hr1⟩ := El hg;obtain ⟨jD, ku2, ts2, h02, e3, e4, _, MI, hr2⟩ := El hg2;obtain ⟨oA, cA, rfl, _⟩ := cF hr1;obtain ⟨oB, cB, rfl, _⟩ := cF hr2;have e1 := ai iE.out e1;have e2 := ai iE.out e2;have e3 := ai iE.out e3;have e4 := ai iE.out e4;have hfc : mI m ts := by have := Vl.out s1 (List.mem_of_getElem? hs1); rw [h0] at this; exact this
                          have gu := ae (fun (v : World) (hv : Below w.heap.size w v) => OQ m ts ts2 (.slice oA ts.length cA) (.slice oB ts2.length cB) v hfc ⟨dT, hr1.imp (fun b o t _ ht => eM.but (fun kk _ hl => hv.block kk hl) _ b o t ht)⟩ ⟨MI, hr2.imp (fun b o t _ ht => eM.but (fun kk _ hl => hv.block kk hl) _ b o t ht)⟩);have v1 : decide ((n : Int) < (cs.length : Int)) = true := decide_eq_true (by omega);have nX := wo hpn GZ.out;have hdj := wm (f := nK m) hs1 hs2;have hsc : nK m s1 s2 = (decide (kx = jD) && fQ false m ts ts2) := by rw [h0, h02]; rfl
                          have nY := HN.out;rw [hdj, hsc, Bool.and_assoc, Bool.and_assoc] at nY;have hin : n < jI.length := by have := vQ.out; omega
                          have HEq : Hid ((kx.toList == jD.toList) = decide (kx = jD)) := ae (str_eq kx jD);generalize decide (kx = jD) = Bt at *;generalize fQ false m ts ts2 = A at *;have iY := ae nY;clear hg hg2 hs1 hs2 HN hdj nY k3 jo hsc h0 h02 hr1 hr2 hfc;cases Bt with
                          | false =>
                            have HS : Hid (R = false) := ae (by rw [← iY.out]; rfl);clear iY;go_upto_region 17 with fail;refine aj.kT 29 89 118 [.pointer (some ⟨c1', 2, none⟩), .slice (some ⟨g, go, none⟩) cs.length cC, .int .i64 (n : Int), .pointer (some ⟨g, go + n * 2, none⟩), .pointer (some ⟨g, go + n * 2, none⟩), .string kx, .pointer (some ⟨c2', 2, none⟩), .slice (some ⟨g2, go2, none⟩) cs.length cD, .int .i64 (n : Int), .pointer (some ⟨g2, go2 + n * 2, none⟩), .pointer (some ⟨g2, go2 + n * 2, none⟩), .string jD, .bool true, .bool true, undef, undef, undef, undef, undef, undef, undef, undef, undef, undef, undef, undef, undef, undef, .bool true] (by kernel_rfl) (by kernel_rfl) (by kernel_rfl) rfl ?hstep ?hend
                            case hstep =>
                              intro q o a v hq ho hF hB hd;have f8 : a.tmps[8]?.getD undef = .pointer (some ⟨c1', 0, none⟩) := aj.ay (hF.eval 8 (fun i hi => by show 89 + i ≠ 8; omega));have f9 : a.tmps[9]?.getD undef = .pointer (some ⟨c2', 0, none⟩) := aj.ay (hF.eval 9 (fun i hi => by show 89 + i ≠ 9; omega));have f11 : a.tmps[11]?.getD undef = .int .i64 (n : Int) := aj.ay (hF.eval 11 (fun i hi => by show 89 + i ≠ 11; omega));have e1 := ai hB e1;have e2 := ai hB e2;have e3 := ai hB e3;have e4 := ai hB e4;have c2 := ai hB c2;have d2 := ai hB d2;have he := HEq.out;have hne : (kx.toList != jD.toList) = true := by rw [bne, he]; rfl
                              have uG := ae (gu.out v (aB iE.out hB))
                              iterate 29 (rcases Nat.lt_succ_iff_lt_or_eq.1 hq with hq | rfl)
                              exact absurd hq (Nat.not_lt_zero _)
                              all_goals (
                                simp only [List.getElem?_toArray, List.getElem?_cons_succ, List.getElem?_cons_zero, Option.some.injEq] at ho;subst ho
                                first
                                | exact aj.l8 rfl rfl rfl rfl (hd _ (by decide)) rfl
                                | (first
                                  | refine aj.Does.go rfl (aj.bB fun K hK => ?_)
                                  | refine aj.l9 rfl rfl rfl rfl (hd _ (by decide)) (aj.bB fun K hK => ?_)
                                   simp [aj.deps, Region.binds] at hd;go_simp
                                   first
                                   | exact hK _ _ ⟨_, rfl, Below.refl _ _, rfl⟩
                                   | exact hK _ _ ⟨_, rfl, Below.refl _ _, by simp [aj.iH, *]⟩
                                   | (refine Calls.mono (show Calls _ _ _ _ _ from uG.out) ?_; rintro e w' ⟨rfl, hw⟩; exact hK _ _ ⟨_, rfl, hw, rfl⟩)))
                            case hend =>
                              intro a v hF hB hG;have fF := ae (aB bb.out hB);have oI := ae (aB iE.out hB);obtain ⟨xl, hxl, rfl, hev⟩ := hF.lit (by simp);obtain rfl := aj.kS hxl (L := [.pointer (some ⟨c1', 2, none⟩), .slice (some ⟨g, go, none⟩) cs.length cC, .int .i64 (n : Int), .pointer (some ⟨g, go + n * 2, none⟩), .pointer (some ⟨g, go + n * 2, none⟩), .string kx, .pointer (some ⟨c2', 2, none⟩), .slice (some ⟨g2, go2, none⟩) cs.length cD, .int .i64 (n : Int), .pointer (some ⟨g2, go2 + n * 2, none⟩), .pointer (some ⟨g2, go2 + n * 2, none⟩), .string jD, .bool true, .bool true, undef, undef, undef, undef, undef, undef, undef, undef, undef, undef, undef, undef, undef, undef, .bool true]) rfl (fun i hi => by rw [← hev i hi]; exact hG i hi);clear hev hxl hF hG hB e1 e2 e3 e4 c2 d2 HEq gu;simp only [List.take_succ_cons, List.take_zero, List.drop_succ_cons, List.drop_zero, List.cons_append, List.nil_append];go_wp2;go_ret;exact ⟨bf HS.out.symm, oI.out⟩
                          | true =>
                            rw [Bool.true_and] at iY;go_upto_region 17 with fail;refine aj.kT 29 89 118 [.pointer (some ⟨c1', 2, none⟩), .slice (some ⟨g, go, none⟩) cs.length cC, .int .i64 (n : Int), .pointer (some ⟨g, go + n * 2, none⟩), .pointer (some ⟨g, go + n * 2, none⟩), .string kx, .pointer (some ⟨c2', 2, none⟩), .slice (some ⟨g2, go2, none⟩) cs.length cD, .int .i64 (n : Int), .pointer (some ⟨g2, go2 + n * 2, none⟩), .pointer (some ⟨g2, go2 + n * 2, none⟩), .string jD, .bool false, .bool false, .pointer (some ⟨c1', 2, none⟩), .slice (some ⟨g, go, none⟩) cs.length cC, .int .i64 (n : Int), .pointer (some ⟨g, go + n * 2, none⟩), .pointer (some ⟨g, go + n * 2 + 1, none⟩), .slice oA ts.length cA, .pointer (some ⟨c2', 2, none⟩), .slice (some ⟨g2, go2, none⟩) cs.length cD, .int .i64 (n : Int), .pointer (some ⟨g2, go2 + n * 2, none⟩), .pointer (some ⟨g2, go2 + n * 2 + 1, none⟩), .slice oB ts2.length cB, .bool A, .bool (!A), .bool (!A)] (by kernel_rfl) (by kernel_rfl) (by kernel_rfl) rfl ?hstep ?hend
                            case hstep =>
                              intro q o a v hq ho hF hB hd;have f8 : a.tmps[8]?.getD undef = .pointer (some ⟨c1', 0, none⟩) := aj.ay (hF.eval 8 (fun i hi => by show 89 + i ≠ 8; omega));have f9 : a.tmps[9]?.getD undef = .pointer (some ⟨c2', 0, none⟩) := aj.ay (hF.eval 9 (fun i hi => by show 89 + i ≠ 9; omega));have f11 : a.tmps[11]?.getD undef = .int .i64 (n : Int) := aj.ay (hF.eval 11 (fun i hi => by show 89 + i ≠ 11; omega));have e1 := ai hB e1;have e2 := ai hB e2;have e3 := ai hB e3;have e4 := ai hB e4;have c2 := ai hB c2;have d2 := ai hB d2;have he := HEq.out;have hne : (kx.toList != jD.toList) = false := by rw [bne, he]; rfl
                              have uG := ae (gu.out v (aB iE.out hB))
                              iterate 29 (rcases Nat.lt_succ_iff_lt_or_eq.1 hq with hq | rfl)
                              exact absurd hq (Nat.not_lt_zero _)
                              all_goals (
                                simp only [List.getElem?_toArray, List.getElem?_cons_succ, List.getElem?_cons_zero, Option.some.injEq] at ho;subst ho
                                first
                                | exact aj.l8 rfl rfl rfl rfl (hd _ (by decide)) rfl
                                | (first
                                  | refine aj.Does.go rfl (aj.bB fun K hK => ?_)
                                  | refine aj.l9 rfl rfl rfl rfl (hd _ (by decide)) (aj.bB fun K hK => ?_)
                                   simp [aj.deps, Region.binds] at hd;go_simp
                                   first
                                   | exact hK _ _ ⟨_, rfl, Below.refl _ _, rfl⟩
                                   | exact hK _ _ ⟨_, rfl, Below.refl _ _, by simp [aj.iH, *]⟩
                                   | (refine Calls.mono (show Calls _ _ _ _ _ from uG.out) ?_; rintro e w' ⟨rfl, hw⟩; exact hK _ _ ⟨_, rfl, hw, rfl⟩)))
                            case hend =>
                              intro a v hF hB hG;have fF := ae (aB bb.out hB);have oI := ae (aB iE.out hB);obtain ⟨xl, hxl, rfl, hev⟩ := hF.lit (by simp);obtain rfl := aj.kS hxl (L := [.pointer (some ⟨c1', 2, none⟩), .slice (some ⟨g, go, none⟩) cs.length cC, .int .i64 (n : Int), .pointer (some ⟨g, go + n * 2, none⟩), .pointer (some ⟨g, go + n * 2, none⟩), .string kx, .pointer (some ⟨c2', 2, none⟩), .slice (some ⟨g2, go2, none⟩) cs.length cD, .int .i64 (n : Int), .pointer (some ⟨g2, go2 + n * 2, none⟩), .pointer (some ⟨g2, go2 + n * 2, none⟩), .string jD, .bool false, .bool false, .pointer (some ⟨c1', 2, none⟩), .slice (some ⟨g, go, none⟩) cs.length cC, .int .i64 (n : Int), .pointer (some ⟨g, go + n * 2, none⟩), .pointer (some ⟨g, go + n * 2 + 1, none⟩), .slice oA ts.length cA, .pointer (some ⟨c2', 2, none⟩), .slice (some ⟨g2, go2, none⟩) cs.length cD, .int .i64 (n : Int), .pointer (some ⟨g2, go2 + n * 2, none⟩), .pointer (some ⟨g2, go2 + n * 2 + 1, none⟩), .slice oB ts2.length cB, .bool A, .bool (!A), .bool (!A)]) rfl (fun i hi => by rw [← hev i hi]; exact hG i hi);clear hev hxl hF hG hB e1 e2 e3 e4 c2 d2 HEq gu;simp only [List.take_succ_cons, List.take_zero, List.drop_succ_cons, List.drop_zero, List.cons_append, List.nil_append];cases A with
                              | false =>
                                have HS : Hid (R = false) := ae (by rw [← iY.out]; rfl);clear iY;go_wp2;go_ret;exact ⟨bf HS.out.symm, oI.out⟩
                              | true =>
                                have HS : Hid ((dL (nK m) (cs.drop (n + 1)) (jI.drop (n + 1)) && rest) = R) := ae (by rw [← iY.out]; rfl);clear iY;go_wp2;go_roundw
                                case rel => exact ⟨n + 1, by first | rfl | (congr 1), hpn, HS, fF⟩
                                case measure => first | exact rL hpn nX | (simp; exact rL hpn nX)
                        · have v1 : decide ((n : Int) < (cs.length : Int)) = false := decide_eq_false (by omega)
                          have HS : Hid (dL (nS false m) (ds.drop (i + 1)) (ks.drop (i + 1)) = R) := ae (by
                            have := HN.out;rw [wu (by omega) (by have := vQ.out; omega), Bool.true_and] at this;rw [← MF.out]; exact this)
                          clear HN;go_wp2;go_roundw
                          case rel => exact ⟨i + 1, by first | rfl | (congr 1), hik, HS, iE⟩
                          case measure => first | exact rL hik hw1 | (simp; exact rL hik hw1)
                · have HS : Hid (R = false) := ae (by rw [HD.out, uH hl2]; simp)
                  skip
                  clear HD;go_wp2;go_ret;exact ⟨bf HS.out.symm, fH.out⟩
              · have HS : Hid (R = false) := ae (by rw [HD.out, uH hl1]; simp)
                clear HD;go_wp2;go_ret;exact ⟨bf HS.out.symm, fH.out⟩
            | true =>
              rw [Bool.not_true, Bool.false_or] at HD;cases q9 : (pa == qa) with
              | false =>
                have r9 : (pa != qa) = true := by rw [bne, q9]; rfl
                have HS : Hid (R = false) := ae (by rw [HD.out, q9]; simp);clear HD;go_wp2;go_ret;exact ⟨bf HS.out.symm, fH.out⟩
              | true =>
                have r9 : (pa != qa) = false := by rw [bne, q9]; rfl
                rw [q9, Bool.true_and] at HD;by_cases hl1 : ps.length = gA.length
                · by_cases hl2 : cs.length = jI.length
                  · have vO := ae hl1
                    have vQ := ae hl2;rw [← hl1] at d1;rw [← hl2] at d2;obtain ⟨rest, hrest⟩ : ∃ r, r = dL (nS true m) (ds.drop (i + 1)) (ks.drop (i + 1)) := ⟨_, rfl⟩;obtain ⟨RC, nV⟩ : ∃ r, r = (dL (nK m) cs jI && rest) := ⟨_, rfl⟩;have hD0 := HD.out;rw [← hrest, Bool.and_assoc, ← nV] at hD0;have MF := ae hrest;have st1 : Hid ((dL (fun x y => decide (x = y)) (ps.drop 0) (gA.drop 0) && RC) = R) := ae hD0.symm;have Aj := ae nV;have BB : Hid (Below u.heap.size u u) := ae (Below.refl _ _);clear hD0 HD hrest nV hl1 hl2;go_wp2_with fail;clear c0 d0 c1 d1 c2 d2 c3 d3;go_loopw [10] (fun a wr => ∃ j : Nat, a = .int .i64 j ∧ j ≤ ps.length ∧ Hid ((dL (fun x y => decide (x = y)) (ps.drop j) (gA.drop j) && RC) = R) ∧ Hid (Below u.heap.size u wr)) (fun a _ => match a with | .int _ j => ps.length - j.toNat | _ => 0)
                    case atStart => exact ⟨0, rfl, Nat.zero_le _, st1, BB⟩
                    case round =>
                      obtain ⟨j, rfl, hj, HN, bb⟩ := hrel;clear st1 BB;have k3 := (bb.out.block _ (Array.getElem?_eq_some_iff.1 H3.out).1).trans H3.out;have jo := (bb.out.block _ (Array.getElem?_eq_some_iff.1 gJ.out).1).trans gJ.out;have c1 := ak k3 1 _ rfl;have d1 := ak jo 1 _ rfl;rw [← vO.out] at d1;have iE := ae (aB fH.out bb.out);by_cases nW : j < ps.length
                      · obtain ⟨s1, hs1⟩ : ∃ s1, ps[j]? = some s1 := ⟨_, List.getElem?_eq_getElem nW⟩
                        obtain ⟨s2, hs2⟩ : ∃ s2, gA[j]? = some s2 := ⟨_, List.getElem?_eq_getElem (by have := vO.out; omega)⟩;obtain ⟨g, go, MG, hg⟩ := Vh.out j (.string s1) (by rw [List.getElem?_map, hs1]; rfl);obtain ⟨g2, go2, MH, hg2⟩ := Vi.out j (.string s2) (by rw [List.getElem?_map, hs2]; rfl);subst MG;subst MH;have e1 := ai iE.out hg.2;have e2 := ai iE.out hg2.2;rw [Nat.mul_one] at e1 e2;have v1 : decide ((j : Int) < (ps.length : Int)) = true := decide_eq_true (by omega);have nX := wo nW zl.out;have hdj := wm (f := fun x y => decide (x = y)) hs1 hs2;have nY := HN.out;rw [hdj, Bool.and_assoc] at nY;have hin : j < gA.length := by have := vO.out; omega
                        have HEq : Hid ((s1.toList == s2.toList) = decide (s1 = s2)) := ae (str_eq s1 s2);generalize decide (s1 = s2) = Bt at *;have iY := ae nY;clear hg hg2 hs1 hs2 HN hdj nY k3 jo;go_upto_region 12 with fail;refine aj.kT 11 71 118 [.pointer (some ⟨c1', 1, none⟩), .slice (some ⟨g, go, none⟩) ps.length cP, .int .i64 (j : Int), .pointer (some ⟨g, go + j, none⟩), .string s1, .pointer (some ⟨c2', 1, none⟩), .slice (some ⟨g2, go2, none⟩) ps.length cQ, .int .i64 (j : Int), .pointer (some ⟨g2, go2 + j, none⟩), .string s2, .bool (!Bt)] (by kernel_rfl) (by kernel_rfl) (by kernel_rfl) rfl ?hstep ?hend
                        case hstep =>
                          intro q o a v hq ho hF hB hd;have f8 : a.tmps[8]?.getD undef = .pointer (some ⟨c1', 0, none⟩) := aj.ay (hF.eval 8 (fun i hi => by show 71 + i ≠ 8; omega));have f9 : a.tmps[9]?.getD undef = .pointer (some ⟨c2', 0, none⟩) := aj.ay (hF.eval 9 (fun i hi => by show 71 + i ≠ 9; omega));have f10 : a.tmps[10]?.getD undef = .int .i64 (j : Int) := aj.ay (hF.eval 10 (fun i hi => by show 71 + i ≠ 10; omega));have e1 := ai hB e1;have e2 := ai hB e2;have c1 := ai hB c1;have d1 := ai hB d1;have he := HEq.out
                          iterate 11 (rcases Nat.lt_succ_iff_lt_or_eq.1 hq with hq | rfl)
                          exact absurd hq (Nat.not_lt_zero _)
                          all_goals (
                            simp only [List.getElem?_toArray, List.getElem?_cons_succ, List.getElem?_cons_zero, Option.some.injEq] at ho;subst ho;refine aj.Does.go rfl (aj.bB fun K hK => ?_);simp [aj.deps, Region.binds] at hd;go_simp
                            first | exact hK _ _ ⟨_, rfl, Below.refl _ _, rfl⟩ | exact hK _ _ ⟨_, rfl, Below.refl _ _, by simp [aj.iH, he]⟩)
                        case hend =>
                          intro a v hF hB hG;have fF := ae (aB bb.out hB);have oI := ae (aB iE.out hB);obtain ⟨xl, hxl, rfl, hev⟩ := hF.lit (by simp);obtain rfl := aj.kS hxl (L := [.pointer (some ⟨c1', 1, none⟩), .slice (some ⟨g, go, none⟩) ps.length cP, .int .i64 (j : Int), .pointer (some ⟨g, go + j, none⟩), .string s1, .pointer (some ⟨c2', 1, none⟩), .slice (some ⟨g2, go2, none⟩) ps.length cQ, .int .i64 (j : Int), .pointer (some ⟨g2, go2 + j, none⟩), .string s2, .bool (!Bt)]) rfl (fun i hi => by rw [← hev i hi]; exact hG i hi);clear hev hxl hF hG hB e1 e2 c1 d1 HEq;simp only [List.take_succ_cons, List.take_zero, List.drop_succ_cons, List.drop_zero, List.cons_append, List.nil_append];cases Bt with
                          | false =>
                            have HS : Hid (R = false) := ae (by rw [← iY.out]; rfl);clear iY;go_wp2;go_ret;exact ⟨bf HS.out.symm, oI.out⟩
                          | true =>
                            have HS : Hid ((dL (fun x y => decide (x = y)) (ps.drop (j + 1)) (gA.drop (j + 1)) && RC) = R) := ae (by rw [← iY.out]; rfl);clear iY;go_wp2;go_roundw
                            case rel => exact ⟨j + 1, by first | rfl | (congr 1), nW, HS, fF⟩
                            case measure => first | exact rL nW nX | (simp; exact rL nW nX)
                      · have v1 : decide ((j : Int) < (ps.length : Int)) = false := decide_eq_false (by omega)
                        have hRR : RC = R := by
                          have := HN.out;rw [wu (by omega) (by have := vO.out; omega), Bool.true_and] at this;exact this
                        have st2 : Hid ((dL (nK m) (cs.drop 0) (jI.drop 0) && rest) = R) := ae (by rw [← hRR]; exact Aj.out.symm);have c2 := ak k3 2 _ rfl;have d2 := ak jo 2 _ rfl;have BB := ae bb.out;clear HN hRR Aj k3 jo iE;go_wp2_with fail;clear c1 d1 c2 d2 bb;go_loopw [11] (fun a wr => ∃ j : Nat, a = .int .i64 j ∧ j ≤ cs.length ∧ Hid ((dL (nK m) (cs.drop j) (jI.drop j) && rest) = R) ∧ Hid (Below u.heap.size u wr)) (fun a _ => match a with | .int _ j => cs.length - j.toNat | _ => 0)
                        case atStart => exact ⟨0, rfl, Nat.zero_le _, st2, BB⟩
                        case round =>
                          obtain ⟨n, rfl, hn, HN, bb⟩ := hrel;clear st2 BB;have k3 := (bb.out.block _ (Array.getElem?_eq_some_iff.1 H3.out).1).trans H3.out;have jo := (bb.out.block _ (Array.getElem?_eq_some_iff.1 gJ.out).1).trans gJ.out;have c2 := ak k3 2 _ rfl;have d2 := ak jo 2 _ rfl;rw [← vQ.out] at d2;have iE := ae (aB fH.out bb.out);by_cases hpn : n < cs.length
                          · obtain ⟨s1, hs1⟩ : ∃ s1, cs[n]? = some s1 := ⟨_, List.getElem?_eq_getElem hpn⟩
                            obtain ⟨s2, hs2⟩ : ∃ s2, jI[n]? = some s2 := ⟨_, List.getElem?_eq_getElem (by have := vQ.out; omega)⟩;obtain ⟨g, go, Em, hg⟩ := Vj.out n s1 hs1;obtain ⟨g2, go2, Bz, hg2⟩ := Vk.out n s2 hs2;subst Em;subst Bz;obtain ⟨kx, ku, ts, h0, e1, e2, _, dT, hr1⟩ := El hg;obtain ⟨jD, ku2, ts2, h02, e3, e4, _, MI, hr2⟩ := El hg2;obtain ⟨oA, cA, rfl, _⟩ := cF hr1;obtain ⟨oB, cB, rfl, _⟩ := cF hr2;have e1 := ai iE.out e1;have e2 := ai iE.out e2;have e3 := ai iE.out e3;have e4 := ai iE.out e4;have hfc : mI m ts := by have := Vl.out s1 (List.mem_of_getElem? hs1); rw [h0] at this; exact this
                            have gu := ae (fun (v : World) (hv : Below w.heap.size w v) => OQ m ts ts2 (.slice oA ts.length cA) (.slice oB ts2.length cB) v hfc ⟨dT, hr1.imp (fun b o t _ ht => eM.but (fun kk _ hl => hv.block kk hl) _ b o t ht)⟩ ⟨MI, hr2.imp (fun b o t _ ht => eM.but (fun kk _ hl => hv.block kk hl) _ b o t ht)⟩);have v1 : decide ((n : Int) < (cs.length : Int)) = true := decide_eq_true (by omega);have nX := wo hpn GZ.out;have hdj := wm (f := nK m) hs1 hs2;have hsc : nK m s1 s2 = (decide (kx = jD) && fQ false m ts ts2) := by rw [h0, h02]; rfl
                            have nY := HN.out;rw [hdj, hsc, Bool.and_assoc, Bool.and_assoc] at nY;have hin : n < jI.length := by have := vQ.out; omega
                            have HEq : Hid ((kx.toList == jD.toList) = decide (kx = jD)) := ae (str_eq kx jD);generalize decide (kx = jD) = Bt at *;generalize fQ false m ts ts2 = A at *;have iY := ae nY;clear hg hg2 hs1 hs2 HN hdj nY k3 jo hsc h0 h02 hr1 hr2 hfc;cases Bt with
                            | false =>
                              have HS : Hid (R = false) := ae (by rw [← iY.out]; rfl);clear iY;go_upto_region 17 with fail;refine aj.kT 29 89 118 [.pointer (some ⟨c1', 2, none⟩), .slice (some ⟨g, go, none⟩) cs.length cC, .int .i64 (n : Int), .pointer (some ⟨g, go + n * 2, none⟩), .pointer (some ⟨g, go + n * 2, none⟩), .string kx, .pointer (some ⟨c2', 2, none⟩), .slice (some ⟨g2, go2, none⟩) cs.length cD, .int .i64 (n : Int), .pointer (some ⟨g2, go2 + n * 2, none⟩), .pointer (some ⟨g2, go2 + n * 2, none⟩), .string jD, .bool true, .bool true, undef, undef, undef, undef, undef, undef, undef, undef, undef, undef, undef, undef, undef, undef, .bool true] (by kernel_rfl) (by kernel_rfl) (by kernel_rfl) rfl ?hstep ?hend
                              case hstep =>
                                intro q o a v hq ho hF hB hd;have f8 : a.tmps[8]?.getD undef = .pointer (some ⟨c1', 0, none⟩) := aj.ay (hF.eval 8 (fun i hi => by show 89 + i ≠ 8; omega));have f9 : a.tmps[9]?.getD undef = .pointer (some ⟨c2', 0, none⟩) := aj.ay (hF.eval 9 (fun i hi => by show 89 + i ≠ 9; omega));have f11 : a.tmps[11]?.getD undef = .int .i64 (n : Int) := aj.ay (hF.eval 11 (fun i hi => by show 89 + i ≠ 11; omega));have e1 := ai hB e1;have e2 := ai hB e2;have e3 := ai hB e3;have e4 := ai hB e4;have c2 := ai hB c2;have d2 := ai hB d2;have he := HEq.out;have hne : (kx.toList != jD.toList) = true := by rw [bne, he]; rfl
                                have uG := ae (gu.out v (aB iE.out hB))
                                iterate 29 (rcases Nat.lt_succ_iff_lt_or_eq.1 hq with hq | rfl)
                                exact absurd hq (Nat.not_lt_zero _)
                                all_goals (
                                  simp only [List.getElem?_toArray, List.getElem?_cons_succ, List.getElem?_cons_zero, Option.some.injEq] at ho;subst ho
                                  first
                                  | exact aj.l8 rfl rfl rfl rfl (hd _ (by decide)) rfl
                                  | (first
                                    | refine aj.Does.go rfl (aj.bB fun K hK => ?_)
                                    | refine aj.l9 rfl rfl rfl rfl (hd _ (by decide)) (aj.bB fun K hK => ?_)
                                     simp [aj.deps, Region.binds] at hd;go_simp
                                     first
                                     | exact hK _ _ ⟨_, rfl, Below.refl _ _, rfl⟩
                                     | exact hK _ _ ⟨_, rfl, Below.refl _ _, by simp [aj.iH, *]⟩
                                     | (refine Calls.mono (show Calls _ _ _ _ _ from uG.out) ?_; rintro e w' ⟨rfl, hw⟩; exact hK _ _ ⟨_, rfl, hw, rfl⟩)))
                              case hend =>
                                intro a v hF hB hG;have fF := ae (aB bb.out hB);have oI := ae (aB iE.out hB);obtain ⟨xl, hxl, rfl, hev⟩ := hF.lit (by simp);obtain rfl := aj.kS hxl (L := [.pointer (some ⟨c1', 2, none⟩), .slice (some ⟨g, go, none⟩) cs.length cC, .int .i64 (n : Int), .pointer (some ⟨g, go + n * 2, none⟩), .pointer (some ⟨g, go + n * 2, none⟩), .string kx, .pointer (some ⟨c2', 2, none⟩), .slice (some ⟨g2, go2, none⟩) cs.length cD, .int .i64 (n : Int), .pointer (some ⟨g2, go2 + n * 2, none⟩), .pointer (some ⟨g2, go2 + n * 2, none⟩), .string jD, .bool true, .bool true, undef, undef, undef, undef, undef, undef, undef, undef, undef, undef, undef, undef, undef, undef, .bool true]) rfl (fun i hi => by rw [← hev i hi]; exact hG i hi);clear hev hxl hF hG hB e1 e2 e3 e4 c2 d2 HEq gu;simp only [List.take_succ_cons, List.take_zero, List.drop_succ_cons, List.drop_zero, List.cons_append, List.nil_append];go_wp2;go_ret;exact ⟨bf HS.out.symm, oI.out⟩
                            | true =>
                              rw [Bool.true_and] at iY;go_upto_region 17 with fail;refine aj.kT 29 89 118 [.pointer (some ⟨c1', 2, none⟩), .slice (some ⟨g, go, none⟩) cs.length cC, .int .i64 (n : Int), .pointer (some ⟨g, go + n * 2, none⟩), .pointer (some ⟨g, go + n * 2, none⟩), .string kx, .pointer (some ⟨c2', 2, none⟩), .slice (some ⟨g2, go2, none⟩) cs.length cD, .int .i64 (n : Int), .pointer (some ⟨g2, go2 + n * 2, none⟩), .pointer (some ⟨g2, go2 + n * 2, none⟩), .string jD, .bool false, .bool false, .pointer (some ⟨c1', 2, none⟩), .slice (some ⟨g, go, none⟩) cs.length cC, .int .i64 (n : Int), .pointer (some ⟨g, go + n * 2, none⟩), .pointer (some ⟨g, go + n * 2 + 1, none⟩), .slice oA ts.length cA, .pointer (some ⟨c2', 2, none⟩), .slice (some ⟨g2, go2, none⟩) cs.length cD, .int .i64 (n : Int), .pointer (some ⟨g2, go2 + n * 2, none⟩), .pointer (some ⟨g2, go2 + n * 2 + 1, none⟩), .slice oB ts2.length cB, .bool A, .bool (!A), .bool (!A)] (by kernel_rfl) (by kernel_rfl) (by kernel_rfl) rfl ?hstep ?hend
                              case hstep =>
                                intro q o a v hq ho hF hB hd;have f8 : a.tmps[8]?.getD undef = .pointer (some ⟨c1', 0, none⟩) := aj.ay (hF.eval 8 (fun i hi => by show 89 + i ≠ 8; omega));have f9 : a.tmps[9]?.getD undef = .pointer (some ⟨c2', 0, none⟩) := aj.ay (hF.eval 9 (fun i hi => by show 89 + i ≠ 9; omega));have f11 : a.tmps[11]?.getD undef = .int .i64 (n : Int) := aj.ay (hF.eval 11 (fun i hi => by show 89 + i ≠ 11; omega));have e1 := ai hB e1;have e2 := ai hB e2;have e3 := ai hB e3;have e4 := ai hB e4;have c2 := ai hB c2;have d2 := ai hB d2;have he := HEq.out;have hne : (kx.toList != jD.toList) = false := by rw [bne, he]; rfl
                                have uG := ae (gu.out v (aB iE.out hB))
                                iterate 29 (rcases Nat.lt_succ_iff_lt_or_eq.1 hq with hq | rfl)
                                exact absurd hq (Nat.not_lt_zero _)
                                all_goals (
                                  simp only [List.getElem?_toArray, List.getElem?_cons_succ, List.getElem?_cons_zero, Option.some.injEq] at ho;subst ho
                                  first
                                  | exact aj.l8 rfl rfl rfl rfl (hd _ (by decide)) rfl
                                  | (first
                                    | refine aj.Does.go rfl (aj.bB fun K hK => ?_)
                                    | refine aj.l9 rfl rfl rfl rfl (hd _ (by decide)) (aj.bB fun K hK => ?_)
                                     simp [aj.deps, Region.binds] at hd;go_simp
                                     first
                                     | exact hK _ _ ⟨_, rfl, Below.refl _ _, rfl⟩
                                     | exact hK _ _ ⟨_, rfl, Below.refl _ _, by simp [aj.iH, *]⟩
                                     | (refine Calls.mono (show Calls _ _ _ _ _ from uG.out) ?_; rintro e w' ⟨rfl, hw⟩; exact hK _ _ ⟨_, rfl, hw, rfl⟩)))
                              case hend =>
                                intro a v hF hB hG;have fF := ae (aB bb.out hB);have oI := ae (aB iE.out hB);obtain ⟨xl, hxl, rfl, hev⟩ := hF.lit (by simp);obtain rfl := aj.kS hxl (L := [.pointer (some ⟨c1', 2, none⟩), .slice (some ⟨g, go, none⟩) cs.length cC, .int .i64 (n : Int), .pointer (some ⟨g, go + n * 2, none⟩), .pointer (some ⟨g, go + n * 2, none⟩), .string kx, .pointer (some ⟨c2', 2, none⟩), .slice (some ⟨g2, go2, none⟩) cs.length cD, .int .i64 (n : Int), .pointer (some ⟨g2, go2 + n * 2, none⟩), .pointer (some ⟨g2, go2 + n * 2, none⟩), .string jD, .bool false, .bool false, .pointer (some ⟨c1', 2, none⟩), .slice (some ⟨g, go, none⟩) cs.length cC, .int .i64 (n : Int), .pointer (some ⟨g, go + n * 2, none⟩), .pointer (some ⟨g, go + n * 2 + 1, none⟩), .slice oA ts.length cA, .pointer (some ⟨c2', 2, none⟩), .slice (some ⟨g2, go2, none⟩) cs.length cD, .int .i64 (n : Int), .pointer (some ⟨g2, go2 + n * 2, none⟩), .pointer (some ⟨g2, go2 + n * 2 + 1, none⟩), .slice oB ts2.length cB, .bool A, .bool (!A), .bool (!A)]) rfl (fun i hi => by rw [← hev i hi]; exact hG i hi);clear hev hxl hF hG hB e1 e2 e3 e4 c2 d2 HEq gu;simp only [List.take_succ_cons, List.take_zero, List.drop_succ_cons, List.drop_zero, List.cons_append, List.nil_append];cases A with
                                | false =>
                                  have HS : Hid (R = false) := ae (by rw [← iY.out]; rfl);clear iY;go_wp2;go_ret;exact ⟨bf HS.out.symm, oI.out⟩
                                | true =>
                                  have HS : Hid ((dL (nK m) (cs.drop (n + 1)) (jI.drop (n + 1)) && rest) = R) := ae (by rw [← iY.out]; rfl);clear iY;go_wp2;go_roundw
                                  case rel => exact ⟨n + 1, by first | rfl | (congr 1), hpn, HS, fF⟩
                                  case measure => first | exact rL hpn nX | (simp; exact rL hpn nX)
                          · have v1 : decide ((n : Int) < (cs.length : Int)) = false := decide_eq_false (by omega)
                            have HS : Hid (dL (nS true m) (ds.drop (i + 1)) (ks.drop (i + 1)) = R) := ae (by
                              have := HN.out;rw [wu (by omega) (by have := vQ.out; omega), Bool.true_and] at this;rw [← MF.out]; exact this)
                            clear HN;go_wp2;go_roundw
                            case rel => exact ⟨i + 1, by first | rfl | (congr 1), hik, HS, iE⟩
                            case measure => first | exact rL hik hw1 | (simp; exact rL hik hw1)
                  · have HS : Hid (R = false) := ae (by rw [HD.out, uH hl2]; simp)
                    skip
                    clear HD;go_wp2;go_ret;exact ⟨bf HS.out.symm, fH.out⟩
                · have HS : Hid (R = false) := ae (by rw [HD.out, uH hl1]; simp)
                  clear HD;go_wp2;go_ret;exact ⟨bf HS.out.symm, fH.out⟩
      · have q1 : decide ((i : Int) < (ds.length : Int)) = false := decide_eq_false (by omega)
        have HS : Hid (R = true) := ae (by rw [← HN.out]; exact wu (by omega) (by have := rU.out; omega));clear HN;go_wp2;go_ret;exact ⟨bf HS.out.symm, HB2.out⟩
  · have HS : Hid (R = false) := ae (by rw [hR, uH hlen])
    clear hR h hk hel hes hf;go_enter Tryz.func32, Tryz.ntmps32;go_wp2;go_ret;exact ⟨bf HS.out.symm, Below.refl _ _⟩
end Go.Proofs.YtkdbgopgjbfhbaaGreatDoor
