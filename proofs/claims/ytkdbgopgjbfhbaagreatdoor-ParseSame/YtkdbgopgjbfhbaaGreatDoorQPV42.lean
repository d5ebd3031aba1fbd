/- Texts that the claim needs. -/
import Derived.Test.YtkdbgopgjbfhbaaGreatDoorQPV41
namespace Go.Proofs.YtkdbgopgjbfhbaaGreatDoor
open Go.RowKit Lx Pz bw
set_option linter.unusedVariables false
set_option maxRecDepth 100000
set_option maxHeartbeats 32000000
namespace Pz
def SZ:Value->Int
 | .agg c=>match (c:Array Value)[3]? with
  | some (Value.int _ a)=>a
  | _=>0
 | _=>0
theorem qL {n l:Nat} (h:n<l) (hw:wrap64 ((n:Int)+1)=((n+1:Nat):Int)):l-(wrap64 ((n:Int)+1)).toNat<l-n:=by
 rw [hw];omega
def nX (pl:Bool) (d:Nat) (a b:Value):Bool:=decide (sU a=sU b) && ((!pl || (SZ a == SZ b)) && (bD (fun x y=>decide (x=y)) ((p8 a).map qd) ((p8 b).map qd) && bD (jP d) (kH a) (kH b)))
def Dz (pl:Bool) (d dt:Nat) (ds ks:List Value) (a b:Value):Bool:=bD (nX pl dt) ds ks && sm pl d a b
end Pz
theorem aaJ (pl : Bool) (m : Nat) (ds ks : List Value) (vl vk : Value) (w : World) (hf : ∀ c ∈ ds, yo m c) (h : iN 0 vl ds w) (hk : iN 0 vk ks w) : Calls Tryz.prog 32 #[vl, vk, .bool pl] w fun e w' => e = .returned (.bool (bD (nX pl m) ds ks)) ∧ Below w.heap.size w w' := by
  obtain ⟨oR, cR, rfl, hel⟩ := bz h;obtain ⟨oS, cS, rfl, hes⟩ := bz hk;obtain ⟨R, hR⟩ : ∃ R, R = bD (nX pl m) ds ks := ⟨_, rfl⟩;rw [← hR];by_cases hlen : ds.length = ks.length
  · have st0 : Hid (bD (nX pl m) (ds.drop 0) (ks.drop 0) = R) := ae (by rw [hR]; rfl)
    have HL := ae h.1;have dB := ae hel;have jN := ae hes;have gW := ae hlen;have ym := ae hf;rw [← hlen];clear hR h hk hel hes hlen hf;go_enter Tryz.func32, Tryz.ntmps32;go_wp2_with fail;go_loopw [7] (fun a wr => ∃ i : Nat, a = .int .i64 i ∧ i ≤ ds.length ∧ Hid (bD (nX pl m) (ds.drop i) (ks.drop i) = R) ∧ Hid (Below w.heap.size w wr)) (fun a _ => match a with | .int _ i => ds.length - i.toNat | _ => 0)
    case atStart => exact ⟨0, rfl, Nat.zero_le _, st0, ae (Below.refl _ _)⟩
    case round =>
      obtain ⟨i, rfl, hi, HN, HB2⟩ := hrel;clear st0;by_cases hp : i < ds.length
      · obtain ⟨t1, ht1⟩ : ∃ t1, ds[i]? = some t1 := ⟨_, List.getElem?_eq_getElem hp⟩
        obtain ⟨t2, ht2⟩ : ∃ t2, ks[i]? = some t2 := ⟨_, List.getElem?_eq_getElem (by have := gW.out; omega)⟩;obtain ⟨b, off, dh, hC⟩ := dB.out i t1 ht1;obtain ⟨b2, bL, kK, hD⟩ := jN.out i t2 ht2;subst dh;subst kK;obtain ⟨px, pu, pz, pa, ps, cs, h0, p1, p2, p3, p4, _, _, hS1, Lt⟩ := Gy hC;obtain ⟨qx, qu, qz, qa, dK, gI, h02, q1, q2, q3, q4, _, _, jr, pJ⟩ := Gy hD;obtain ⟨oP, cP, rfl, hpe⟩ := bz hS1;obtain ⟨oQ, cQ, rfl, S0⟩ := bz jr;obtain ⟨oC, cC, rfl, hce⟩ := bz Lt;obtain ⟨oD, cD, rfl, hde⟩ := bz pJ;rw [List.length_map] at p2 q2;have y0 := ag HB2.out p1;have y1 := ag HB2.out p2;have y2 := ag HB2.out p3;have y3 := ag HB2.out p4;have x0 := ag HB2.out q1;have x1 := ag HB2.out q2;have x2 := ag HB2.out q3;have x3 := ag HB2.out q4;have hfit := ym.out t1 (List.mem_of_getElem? ht1);rw [h0] at hfit;have hd := nL (f := nX pl m) ht1 ht2;rw [HN.out] at hd
        have hsm : nX pl m t1 t2 = (decide (px = qx) && ((!pl || (pa == qa)) && (bD (fun x y => decide (x = y)) ps dK && bD (jP m) cs gI))) := by
          rw [h0, h02];show (decide (px = qx) && ((!pl || (pa == qa)) && (bD _ ((ps.map Value.string).map qd) ((dK.map Value.string).map qd) && _))) = _;rw [EZ, EZ]; rfl
        rw [hsm] at hd;have HD := ae hd;have S5 := ae hpe;have S9 := ae S0;have vp := ae hce;have Ta := ae hde;have rH : Hid (ps.length ≤ 9223372036854775807) := ae (by have := hS1.1; simpa using this);have rT := ae Lt.1;have Tc : Hid (∀ c ∈ cs, EY m c) := ae hfit;have w1 : decide ((i : Int) < (ds.length : Int)) = true := decide_eq_true (by omega);have hw1 := vW hp HL.out;have hik : i < ds.length := hp;clear hC hD p1 q1 p2 q2 p3 q3 p4 q4 ht1 ht2 HN hd hsm hfit h0 h02 hS1 jr Lt pJ hpe S0 hce hde;go_upto_region 6 with fail;refine ah.Cv (Z := Zt) (none, none) 12 118 (fun i => if i < 8 then 23 + i else if i = 8 then 8 else if i = 9 then 9 else 23 + i) [10, 11] [8, 9, 10, 11] (dV wr.heap.size 62 #[.string px, .slice oP ps.length cP, .slice oC cs.length cC, .int .i64 pa] #[.string qx, .slice oQ dK.length cQ, .slice oD gI.length cD, .int .i64 qa]) (yA wr.heap.size wr) (fun _ _ _ => True) (dL 62 qO #[.string px, .slice oP ps.length cP, .slice oC cs.length cC, .int .i64 pa] #[.string qx, .slice oQ dK.length cQ, .slice oD gI.length cD, .int .i64 qa] [.slice (some ⟨b, off, none⟩) ds.length cR, .int .i64 (i : Int), .pointer (some ⟨b, off + i * 4, none⟩), .agg #[.string px, .slice oP ps.length cP, .slice oC cs.length cC, .int .i64 pa], .slice (some ⟨b2, bL, none⟩) ds.length cS, .int .i64 (i : Int), .pointer (some ⟨b2, bL + i * 4, none⟩), .agg #[.string qx, .slice oQ dK.length cQ, .slice oD gI.length cD, .int .i64 qa]]) (by kernel_rfl) (by kernel_rfl) (by kernel_rfl) (by kernel_rfl) rfl ?hN ?mN (fun _ _ _ _ _ _ _ _ _ _ _ _ _ => trivial) (fun k z z' u u' hk hK hT => hK.step hk hT) ?hstep ?hend ⟨gZ _, fun _ h => (by cases h), fun _ h => (by cases h), fun _ _ h => (by cases h), Nat.le_refl _⟩ (fun _ _ => trivial)
        case hN => exact fun i hi z v v' u h => h.st (by simpa using hi)
        case mN =>
          intro i k v z z' u u' hi hk hne hcl _ hK hG hT;refine hG.Jl hk hne (fun e e2 => ?_) (fun e e2 => ?_) hK hT
          · subst e; subst e2; exact absurd hcl (by decide)
          · subst e; subst e2; exact absurd hcl (by decide)
        case hstep =>
          intro j o a z u hj ho hF hK hR hd;have f0 : a.tmps[0]?.getD undef = .slice (some ⟨b, off, none⟩) ds.length cR := ah.ak (hF.eval 0 (fun i hi => qi 23 i 0 (by decide) (by decide) hi));have f1 : a.tmps[1]?.getD undef = .slice (some ⟨b2, bL, none⟩) ds.length cS := ah.ak (hF.eval 1 (fun i hi => qi 23 i 1 (by decide) (by decide) hi));have f7 : a.tmps[7]?.getD undef = .int .i64 (i : Int) := ah.ak (hF.eval 7 (fun i hi => qi 23 i 7 (by decide) (by decide) hi));have HK := ae hK;have y0 := ag hK.ed y0;have x0 := ag hK.ed x0;have y1 := ag hK.ed y1;have x1 := ag hK.ed x1;have y2 := ag hK.ed y2;have x2 := ag hK.ed x2;have y3 := ag hK.ed y3;have x3 := ag hK.ed x3;have hcase : j = 0 ∨ j = 1 ∨ j = 2 ∨ j = 3 ∨ j = 4 ∨ j = 5 ∨ j = 6 ∨ j = 7 ∨ j = 8 ∨ j = 9 ∨ j = 10 ∨ j = 11 := by omega
          clear hj hR hK;rcases hcase with rfl | rfl | rfl | rfl | rfl | rfl | rfl | rfl | rfl | rfl | rfl | rfl
          all_goals (simp only [List.getElem?_toArray, List.getElem?_cons_succ, List.getElem?_cons_zero, Option.some.injEq] at ho; subst ho; refine ah.bh fun K aj => ?_)
          · skip
            go_simp;exact aj _ _ ⟨_, z, rfl, dV.rd (by decide), dL.rd (by decide) rfl⟩
          · skip
            go_simp;exact aj _ _ ⟨_, z, rfl, dV.rd (by decide), dL.rd (by decide) rfl⟩
          · have q0 : a.tmps[23]?.getD undef = _ := ah.ak ((hd 0 (by decide)).1 (by decide))
            have q1 : a.tmps[24]?.getD undef = _ := ah.ak ((hd 1 (by decide)).1 (by decide));simp only [List.getD_cons_succ, List.getD_cons_zero] at q0 q1;go_simp;exact aj _ _ ⟨_, z, rfl, dV.rd (by decide), dL.rd (by decide) rfl⟩
          · have q2 : a.tmps[25]?.getD undef = _ := ah.ak ((hd 2 (by decide)).1 (by decide))
            simp only [List.getD_cons_succ, List.getD_cons_zero] at q2;go_simp;exact aj _ _ ⟨_, z, rfl, dV.rd (by decide), dL.rd (by decide) rfl⟩
          · skip
            go_simp;exact aj _ _ ⟨_, z, rfl, dV.rd (by decide), dL.rd (by decide) rfl⟩
          · skip
            go_simp;exact aj _ _ ⟨_, z, rfl, dV.rd (by decide), dL.rd (by decide) rfl⟩
          · have q4 : a.tmps[27]?.getD undef = _ := ah.ak ((hd 4 (by decide)).1 (by decide))
            have q5 : a.tmps[28]?.getD undef = _ := ah.ak ((hd 5 (by decide)).1 (by decide));simp only [List.getD_cons_succ, List.getD_cons_zero] at q4 q5;go_simp;exact aj _ _ ⟨_, z, rfl, dV.rd (by decide), dL.rd (by decide) rfl⟩
          · have q6 : a.tmps[29]?.getD undef = _ := ah.ak ((hd 6 (by decide)).1 (by decide))
            simp only [List.getD_cons_succ, List.getD_cons_zero] at q6;go_simp;exact aj _ _ ⟨_, z, rfl, dV.rd (by decide), dL.rd (by decide) rfl⟩
          · go_simp
            exact aj _ _ ⟨_, (some u.heap.size, z.2), rfl, dV.yB HK.out.sz _, dL.yB _ rfl⟩
          · go_simp
            exact aj _ _ ⟨_, (z.1, some u.heap.size), rfl, dV.yC HK.out.sz _, dL.yC _ rfl⟩
          · obtain ⟨b9, k1, k2, k3⟩ := (hd 8 (by decide)).2.1 rfl
            have q : a.eval (.tmp 26) = .agg #[.string px, .slice oP ps.length cP, .slice oC cs.length cC, .int .i64 pa] := (hd 3 (by decide)).1 (by decide);obtain ⟨W, hW, hth, hbw, hb1, hb2⟩ := Ap (zc := qO) (C := #[.string px, .slice oP ps.length cP, .slice oC cs.length cC, .int .i64 pa]) (TY := 62) (HK.out.a b9 k1).1 rfl k3;refine wp_store_mid 62 (.tmp 8) (.tmp 26) rfl b9 0 #[.string px, .slice oP ps.length cP, .slice oC cs.length cC, .int .i64 pa] k2 q hth tX (by simp [Value.oneCell']) ?_;rw [hW];exact aj _ _ ⟨undef, z, rfl, dV.yD k1 hbw hb1 hb2, dL.yD k1 hb1⟩
          · obtain ⟨b9, k1, k2, k3⟩ := (hd 9 (by decide)).2.2.1 rfl
            have q : a.eval (.tmp 30) = .agg #[.string qx, .slice oQ dK.length cQ, .slice oD gI.length cD, .int .i64 qa] := (hd 7 (by decide)).1 (by decide);obtain ⟨W, hW, hth, hbw, hb1, hb2⟩ := Ap (zc := qO) (C := #[.string qx, .slice oQ dK.length cQ, .slice oD gI.length cD, .int .i64 qa]) (TY := 62) (HK.out.b b9 k1).1 rfl k3;refine wp_store_mid 62 (.tmp 9) (.tmp 30) rfl b9 0 #[.string qx, .slice oQ dK.length cQ, .slice oD gI.length cD, .int .i64 qa] k2 q hth tX (by simp [Value.oneCell']) ?_;rw [hW];exact aj _ _ ⟨undef, z, rfl, dV.yE k1 hbw hb1 hb2, dL.yE k1 hb1⟩
        case hend =>
          intro a z u hF hK hn;obtain ⟨c1, e1, h1, _⟩ := (hn 8 (by simp) (by decide)).2.1 rfl;obtain ⟨c2, e2, h1', _⟩ := (hn 9 (by simp) (by decide)).2.2.1 rfl;obtain ⟨c1', si, h3⟩ := (hn 10 (by simp) (by decide)).2.2.2.1 rfl;obtain ⟨c2', e2', h3'⟩ := (hn 11 (by simp) (by decide)).2.2.2.2 rfl;obtain rfl : c1' = c1 := by rw [e1] at si; exact (Option.some.inj si).symm
          obtain rfl : c2' = c2 := by rw [e2] at e2'; exact (Option.some.inj e2').symm
          have fA := ae (ax HB2.out hK.ed);have H3 := ae h3;have gY := ae h3'
          obtain ⟨xl, hxl, rfl, hev⟩ := (ah.Fr.two (s1 := 8) (s2 := 9) (lo := 23) (n := 12) hF h1 h1' (by simp) (fun k e1 e2 e3 i hi => qi 23 i k (by decide) ⟨e1, e2, by
            rcases Nat.lt_or_ge k 23 with h | h
            · exact .inl h
            · refine .inr (Nat.le_of_not_lt fun hl => e3 (k - 23) (by omega) (by omega))⟩ hi)).lit (by simp)
          obtain ⟨x0, x1, x2, x3, x4, x5, x6, x7, x8, x9, il, jm, rfl⟩ : ∃ x0 x1 x2 x3 x4 x5 x6 x7 x8 x9 il jm, xl = [x0, x1, x2, x3, x4, x5, x6, x7, x8, x9, il, jm] := by
            match xl, hxl with
            | [x0, x1, x2, x3, x4, x5, x6, x7, x8, x9, il, jm], _ => exact ⟨x0, x1, x2, x3, x4, x5, x6, x7, x8, x9, il, jm, rfl⟩
          clear hev hxl hF hn hK h1 h1' h3 h3' e1 e2 si e2';simp only [List.set_cons_succ, List.set_cons_zero, List.take_succ_cons, List.take_zero, List.drop_succ_cons, List.drop_zero, List.cons_append, List.nil_append];have c0 := af H3.out 0 _ rfl;have d0 := af gY.out 0 _ rfl;have c1 := af H3.out 1 _ rfl;have d1 := af gY.out 1 _ rfl;have c2 := af H3.out 2 _ rfl;have d2 := af gY.out 2 _ rfl;have c3 := af H3.out 3 _ rfl;have d3 := af gY.out 3 _ rfl;cases q0 : decide (px = qx) with
          | false =>
            have s0 : (px.toList == qx.toList) = false := by rw [str_eq, q0]
            have r0 : (px.toList != qx.toList) = true := by rw [bne, s0]; rfl
            have HS : Hid (R = false) := ae (by rw [HD.out, q0]; simp);clear HD;go_wp2;go_ret;exact ⟨aO HS.out.symm, fA.out⟩
          | true =>
            have s0 : (px.toList == qx.toList) = true := by rw [str_eq, q0]
            have r0 : (px.toList != qx.toList) = false := by rw [bne, s0]; rfl
            rw [q0, Bool.true_and] at HD;cases pl with
            | false =>
              rw [Bool.not_false, Bool.true_or, Bool.true_and] at HD;by_cases hl1 : ps.length = dK.length
              · by_cases hl2 : cs.length = gI.length
                · have vF := ae hl1
                  have vG := ae hl2;rw [← hl1] at d1;rw [← hl2] at d2;obtain ⟨rest, hrest⟩ : ∃ r, r = bD (nX false m) (ds.drop (i + 1)) (ks.drop (i + 1)) := ⟨_, rfl⟩;obtain ⟨RC, kN⟩ : ∃ r, r = (bD (jP m) cs gI && rest) := ⟨_, rfl⟩;have hD0 := HD.out;rw [← hrest, Bool.and_assoc, ← kN] at hD0;have Lu := ae hrest;have st1 : Hid ((bD (fun x y => decide (x = y)) (ps.drop 0) (dK.drop 0) && RC) = R) := ae hD0.symm;have tu := ae kN;have BB : Hid (Below u.heap.size u u) := ae (Below.refl _ _);clear hD0 HD hrest kN hl1 hl2;go_wp2_with fail;clear c0 d0 c1 d1 c2 d2 c3 d3;go_loopw [10] (fun a wr => ∃ j : Nat, a = .int .i64 j ∧ j ≤ ps.length ∧ Hid ((bD (fun x y => decide (x = y)) (ps.drop j) (dK.drop j) && RC) = R) ∧ Hid (Below u.heap.size u wr)) (fun a _ => match a with | .int _ j => ps.length - j.toNat | _ => 0)
                  case atStart => exact ⟨0, rfl, Nat.zero_le _, st1, BB⟩
                  case round =>
                    obtain ⟨j, rfl, hj, HN, aD⟩ := hrel;clear st1 BB;have k3 := (aD.out.block _ (Array.getElem?_eq_some_iff.1 H3.out).1).trans H3.out;have jU := (aD.out.block _ (Array.getElem?_eq_some_iff.1 gY.out).1).trans gY.out;have c1 := af k3 1 _ rfl;have d1 := af jU 1 _ rfl;rw [← vF.out] at d1;have iq := ae (ax fA.out aD.out);by_cases jT : j < ps.length
                    · obtain ⟨s1, hs1⟩ : ∃ s1, ps[j]? = some s1 := ⟨_, List.getElem?_eq_getElem jT⟩
                      obtain ⟨s2, hs2⟩ : ∃ s2, dK[j]? = some s2 := ⟨_, List.getElem?_eq_getElem (by have := vF.out; omega)⟩;obtain ⟨g, go, Lv, hg⟩ := S5.out j (.string s1) (by rw [List.getElem?_map, hs1]; rfl);obtain ⟨g2, go2, Ly, hg2⟩ := S9.out j (.string s2) (by rw [List.getElem?_map, hs2]; rfl);subst Lv;subst Ly;have e1 := ag iq.out hg.2;have e2 := ag iq.out hg2.2;rw [Nat.mul_one] at e1 e2;have v1 : decide ((j : Int) < (ps.length : Int)) = true := decide_eq_true (by omega);have mV := vW jT rH.out;have hdj := nL (f := fun x y => decide (x = y)) hs1 hs2;have mW := HN.out;rw [hdj, Bool.and_assoc] at mW;have hin : j < dK.length := by have := vF.out; omega
                      have HEq : Hid ((s1.toList == s2.toList) = decide (s1 = s2)) := ae (str_eq s1 s2);generalize decide (s1 = s2) = Bt at *;have jb := ae mW;clear hg hg2 hs1 hs2 HN hdj mW k3 jU;go_upto_region 12 with fail;refine ah.rf 11 71 118 [.pointer (some ⟨c1', 1, none⟩), .slice (some ⟨g, go, none⟩) ps.length cP, .int .i64 (j : Int), .pointer (some ⟨g, go + j, none⟩), .string s1, .pointer (some ⟨c2', 1, none⟩), .slice (some ⟨g2, go2, none⟩) ps.length cQ, .int .i64 (j : Int), .pointer (some ⟨g2, go2 + j, none⟩), .string s2, .bool (!Bt)] (by kernel_rfl) (by kernel_rfl) (by kernel_rfl) rfl ?hstep ?hend
                      case hstep =>
                        intro q o a v hq ho hF hB hd;have f8 : a.tmps[8]?.getD undef = .pointer (some ⟨c1', 0, none⟩) := ah.ak (hF.eval 8 (fun i hi => by show 71 + i ≠ 8; omega));have f9 : a.tmps[9]?.getD undef = .pointer (some ⟨c2', 0, none⟩) := ah.ak (hF.eval 9 (fun i hi => by show 71 + i ≠ 9; omega));have f10 : a.tmps[10]?.getD undef = .int .i64 (j : Int) := ah.ak (hF.eval 10 (fun i hi => by show 71 + i ≠ 10; omega));have e1 := ag hB e1;have e2 := ag hB e2;have c1 := ag hB c1;have d1 := ag hB d1;have he := HEq.out
                        iterate 11 (rcases Nat.lt_succ_iff_lt_or_eq.1 hq with hq | rfl)
                        exact absurd hq (Nat.not_lt_zero _)
                        all_goals (
                          simp only [List.getElem?_toArray, List.getElem?_cons_succ, List.getElem?_cons_zero, Option.some.injEq] at ho;subst ho;refine ah.Does.go rfl (ah.bh fun K hK => ?_);simp [ah.deps, Region.binds] at hd;go_simp
                          first | exact hK _ _ ⟨_, rfl, Below.refl _ _, rfl⟩ | exact hK _ _ ⟨_, rfl, Below.refl _ _, by simp [ah.oO, he]⟩)
                      case hend =>
                        intro a v hF hB hG;have dF := ae (ax aD.out hB);have nJ := ae (ax iq.out hB);obtain ⟨xl, hxl, rfl, hev⟩ := hF.lit (by simp);obtain rfl := ah.sN hxl (L := [.pointer (some ⟨c1', 1, none⟩), .slice (some ⟨g, go, none⟩) ps.length cP, .int .i64 (j : Int), .pointer (some ⟨g, go + j, none⟩), .string s1, .pointer (some ⟨c2', 1, none⟩), .slice (some ⟨g2, go2, none⟩) ps.length cQ, .int .i64 (j : Int), .pointer (some ⟨g2, go2 + j, none⟩), .string s2, .bool (!Bt)]) rfl (fun i hi => by rw [← hev i hi]; exact hG i hi);clear hev hxl hF hG hB e1 e2 c1 d1 HEq;simp only [List.take_succ_cons, List.take_zero, List.drop_succ_cons, List.drop_zero, List.cons_append, List.nil_append];cases Bt with
                        | false =>
                          have HS : Hid (R = false) := ae (by rw [← jb.out]; rfl);clear jb;go_wp2;go_ret;exact ⟨aO HS.out.symm, nJ.out⟩
                        | true =>
                          have HS : Hid ((bD (fun x y => decide (x = y)) (ps.drop (j + 1)) (dK.drop (j + 1)) && RC) = R) := ae (by rw [← jb.out]; rfl);clear jb;go_wp2;go_roundw
                          case rel => exact ⟨j + 1, by first | rfl | (congr 1), jT, HS, dF⟩
                          case measure => first | exact qL jT mV | (simp; exact qL jT mV)
                    · have v1 : decide ((j : Int) < (ps.length : Int)) = false := decide_eq_false (by omega)
                      have hRR : RC = R := by
                        have := HN.out;rw [nN (by omega) (by have := vF.out; omega), Bool.true_and] at this;exact this
                      have st2 : Hid ((bD (jP m) (cs.drop 0) (gI.drop 0) && rest) = R) := ae (by rw [← hRR]; exact tu.out.symm);have c2 := af k3 2 _ rfl;have d2 := af jU 2 _ rfl;have BB := ae aD.out;clear HN hRR tu k3 jU iq;go_wp2_with fail;clear c1 d1 c2 d2 aD;go_loopw [11] (fun a wr => ∃ j : Nat, a = .int .i64 j ∧ j ≤ cs.length ∧ Hid ((bD (jP m) (cs.drop j) (gI.drop j) && rest) = R) ∧ Hid (Below u.heap.size u wr)) (fun a _ => match a with | .int _ j => cs.length - j.toNat | _ => 0)
                      case atStart => exact ⟨0, rfl, Nat.zero_le _, st2, BB⟩
                      case round =>
                        obtain ⟨n, rfl, hn, HN, aD⟩ := hrel;clear st2 BB;have k3 := (aD.out.block _ (Array.getElem?_eq_some_iff.1 H3.out).1).trans H3.out;have jU := (aD.out.block _ (Array.getElem?_eq_some_iff.1 gY.out).1).trans gY.out;have c2 := af k3 2 _ rfl;have d2 := af jU 2 _ rfl;rw [← vG.out] at d2;have iq := ae (ax fA.out aD.out);by_cases hpn : n < cs.length
                        · obtain ⟨s1, hs1⟩ : ∃ s1, cs[n]? = some s1 := ⟨_, List.getElem?_eq_getElem hpn⟩
                          obtain ⟨s2, hs2⟩ : ∃ s2, gI[n]? = some s2 := ⟨_, List.getElem?_eq_getElem (by have := vG.out; omega)⟩;obtain ⟨g, go, uW, hg⟩ := vp.out n s1 hs1;obtain ⟨g2, go2, LA, hg2⟩ := Ta.out n s2 hs2;subst uW;subst LA;obtain ⟨kx, ku, ts, h0, e1, e2, _, dT, hr1⟩ := Bb hg;obtain ⟨jC, ku2, ts2, h02, e3, e4, _, LB, hr2⟩ := Bb hg2;obtain ⟨oA, cA, rfl, _⟩ := bz hr1;obtain ⟨oB, cB, rfl, _⟩ := bz hr2;have e1 := ag iq.out e1;have e2 := ag iq.out e2;have e3 := ag iq.out e3;have e4 := ag iq.out e4;have hfc : kW m ts := by have := Tc.out s1 (List.mem_of_getElem? hs1); rw [h0] at this; exact this
                          have fU := ae (fun (v : World) (hv : Below w.heap.size w v) => NJ m ts ts2 (.slice oA ts.length cA) (.slice oB ts2.length cB) v hfc ⟨dT, hr1.imp (fun b o t _ ht => dw.but (fun kk _ hl => hv.block kk hl) _ b o t ht)⟩ ⟨LB, hr2.imp (fun b o t _ ht => dw.but (fun kk _ hl => hv.block kk hl) _ b o t ht)⟩);have v1 : decide ((n : Int) < (cs.length : Int)) = true := decide_eq_true (by omega);have mV := vW hpn rT.out;have hdj := nL (f := jP m) hs1 hs2;have hsc : jP m s1 s2 = (decide (kx = jC) && dY false m ts ts2) := by rw [h0, h02]; rfl
                          have mW := HN.out;rw [hdj, hsc, Bool.and_assoc, Bool.and_assoc] at mW;have hin : n < gI.length := by have := vG.out; omega
                          have HEq : Hid ((kx.toList == jC.toList) = decide (kx = jC)) := ae (str_eq kx jC);generalize decide (kx = jC) = Bt at *;generalize dY false m ts ts2 = A at *;have jb := ae mW;clear hg hg2 hs1 hs2 HN hdj mW k3 jU hsc h0 h02 hr1 hr2 hfc;cases Bt with
                          | false =>
                            have HS : Hid (R = false) := ae (by rw [← jb.out]; rfl);clear jb;go_upto_region 17 with fail;refine ah.rf 29 89 118 [.pointer (some ⟨c1', 2, none⟩), .slice (some ⟨g, go, none⟩) cs.length cC, .int .i64 (n : Int), .pointer (some ⟨g, go + n * 2, none⟩), .pointer (some ⟨g, go + n * 2, none⟩), .string kx, .pointer (some ⟨c2', 2, none⟩), .slice (some ⟨g2, go2, none⟩) cs.length cD, .int .i64 (n : Int), .pointer (some ⟨g2, go2 + n * 2, none⟩), .pointer (some ⟨g2, go2 + n * 2, none⟩), .string jC, .bool true, .bool true, undef, undef, undef, undef, undef, undef, undef, undef, undef, undef, undef, undef, undef, undef, .bool true] (by kernel_rfl) (by kernel_rfl) (by kernel_rfl) rfl ?hstep ?hend
                            case hstep =>
                              intro q o a v hq ho hF hB hd;have f8 : a.tmps[8]?.getD undef = .pointer (some ⟨c1', 0, none⟩) := ah.ak (hF.eval 8 (fun i hi => by show 89 + i ≠ 8; omega));have f9 : a.tmps[9]?.getD undef = .pointer (some ⟨c2', 0, none⟩) := ah.ak (hF.eval 9 (fun i hi => by show 89 + i ≠ 9; omega));have f11 : a.tmps[11]?.getD undef = .int .i64 (n : Int) := ah.ak (hF.eval 11 (fun i hi => by show 89 + i ≠ 11; omega));have e1 := ag hB e1;have e2 := ag hB e2;have e3 := ag hB e3;have e4 := ag hB e4;have c2 := ag hB c2;have d2 := ag hB d2;have he := HEq.out;have hne : (kx.toList != jC.toList) = true := by rw [bne, he]; rfl
                              have uq := ae (fU.out v (ax iq.out hB))
                              iterate 29 (rcases Nat.lt_succ_iff_lt_or_eq.1 hq with hq | rfl)
                              exact absurd hq (Nat.not_lt_zero _)
                              all_goals (
                                simp only [List.getElem?_toArray, List.getElem?_cons_succ, List.getElem?_cons_zero, Option.some.injEq] at ho;subst ho
                                first
                                | exact ah.vX rfl rfl rfl rfl (hd _ (by decide)) rfl
                                | (first
                                  | refine ah.Does.go rfl (ah.bh fun K hK => ?_)
                                  | refine ah.vY rfl rfl rfl rfl (hd _ (by decide)) (ah.bh fun K hK => ?_)
                                   simp [ah.deps, Region.binds] at hd;go_simp
                                   first
                                   | exact hK _ _ ⟨_, rfl, Below.refl _ _, rfl⟩
                                   | exact hK _ _ ⟨_, rfl, Below.refl _ _, by simp [ah.oO, *]⟩
                                   | (refine Calls.mono (show Calls _ _ _ _ _ from uq.out) ?_; rintro e w' ⟨rfl, hw⟩; exact hK _ _ ⟨_, rfl, hw, rfl⟩)))
                            case hend =>
                              intro a v hF hB hG;have dF := ae (ax aD.out hB);have nJ := ae (ax iq.out hB);obtain ⟨xl, hxl, rfl, hev⟩ := hF.lit (by simp);obtain rfl := ah.sN hxl (L := [.pointer (some ⟨c1', 2, none⟩), .slice (some ⟨g, go, none⟩) cs.length cC, .int .i64 (n : Int), .pointer (some ⟨g, go + n * 2, none⟩), .pointer (some ⟨g, go + n * 2, none⟩), .string kx, .pointer (some ⟨c2', 2, none⟩), .slice (some ⟨g2, go2, none⟩) cs.length cD, .int .i64 (n : Int), .pointer (some ⟨g2, go2 + n * 2, none⟩), .pointer (some ⟨g2, go2 + n * 2, none⟩), .string jC, .bool true, .bool true, undef, undef, undef, undef, undef, undef, undef, undef, undef, undef, undef, undef, undef, undef, .bool true]) rfl (fun i hi => by rw [← hev i hi]; exact hG i hi);clear hev hxl hF hG hB e1 e2 e3 e4 c2 d2 HEq fU;simp only [List.take_succ_cons, List.take_zero, List.drop_succ_cons, List.drop_zero, List.cons_append, List.nil_append];go_wp2;go_ret;exact ⟨aO HS.out.symm, nJ.out⟩
                          | true =>
                            rw [Bool.true_and] at jb;go_upto_region 17 with fail;refine ah.rf 29 89 118 [.pointer (some ⟨c1', 2, none⟩), .slice (some ⟨g, go, none⟩) cs.length cC, .int .i64 (n : Int), .pointer (some ⟨g, go + n * 2, none⟩), .pointer (some ⟨g, go + n * 2, none⟩), .string kx, .pointer (some ⟨c2', 2, none⟩), .slice (some ⟨g2, go2, none⟩) cs.length cD, .int .i64 (n : Int), .pointer (some ⟨g2, go2 + n * 2, none⟩), .pointer (some ⟨g2, go2 + n * 2, none⟩), .string jC, .bool false, .bool false, .pointer (some ⟨c1', 2, none⟩), .slice (some ⟨g, go, none⟩) cs.length cC, .int .i64 (n : Int), .pointer (some ⟨g, go + n * 2, none⟩), .pointer (some ⟨g, go + n * 2 + 1, none⟩), .slice oA ts.length cA, .pointer (some ⟨c2', 2, none⟩), .slice (some ⟨g2, go2, none⟩) cs.length cD, .int .i64 (n : Int), .pointer (some ⟨g2, go2 + n * 2, none⟩), .pointer (some ⟨g2, go2 + n * 2 + 1, none⟩), .slice oB ts2.length cB, .bool A, .bool (!A), .bool (!A)] (by kernel_rfl) (by kernel_rfl) (by kernel_rfl) rfl ?hstep ?hend
                            case hstep =>
                              intro q o a v hq ho hF hB hd;have f8 : a.tmps[8]?.getD undef = .pointer (some ⟨c1', 0, none⟩) := ah.ak (hF.eval 8 (fun i hi => by show 89 + i ≠ 8; omega));have f9 : a.tmps[9]?.getD undef = .pointer (some ⟨c2', 0, none⟩) := ah.ak (hF.eval 9 (fun i hi => by show 89 + i ≠ 9; omega));have f11 : a.tmps[11]?.getD undef = .int .i64 (n : Int) := ah.ak (hF.eval 11 (fun i hi => by show 89 + i ≠ 11; omega));have e1 := ag hB e1;have e2 := ag hB e2;have e3 := ag hB e3;have e4 := ag hB e4;have c2 := ag hB c2;have d2 := ag hB d2;have he := HEq.out;have hne : (kx.toList != jC.toList) = false := by rw [bne, he]; rfl
                              have uq := ae (fU.out v (ax iq.out hB))
                              iterate 29 (rcases Nat.lt_succ_iff_lt_or_eq.1 hq with hq | rfl)
                              exact absurd hq (Nat.not_lt_zero _)
                              all_goals (
                                simp only [List.getElem?_toArray, List.getElem?_cons_succ, List.getElem?_cons_zero, Option.some.injEq] at ho;subst ho
                                first
                                | exact ah.vX rfl rfl rfl rfl (hd _ (by decide)) rfl
                                | (first
                                  | refine ah.Does.go rfl (ah.bh fun K hK => ?_)
                                  | refine ah.vY rfl rfl rfl rfl (hd _ (by decide)) (ah.bh fun K hK => ?_)
                                   simp [ah.deps, Region.binds] at hd;go_simp
                                   first
                                   | exact hK _ _ ⟨_, rfl, Below.refl _ _, rfl⟩
                                   | exact hK _ _ ⟨_, rfl, Below.refl _ _, by simp [ah.oO, *]⟩
                                   | (refine Calls.mono (show Calls _ _ _ _ _ from uq.out) ?_; rintro e w' ⟨rfl, hw⟩; exact hK _ _ ⟨_, rfl, hw, rfl⟩)))
                            case hend =>
                              intro a v hF hB hG;have dF := ae (ax aD.out hB);have nJ := ae (ax iq.out hB);obtain ⟨xl, hxl, rfl, hev⟩ := hF.lit (by simp);obtain rfl := ah.sN hxl (L := [.pointer (some ⟨c1', 2, none⟩), .slice (some ⟨g, go, none⟩) cs.length cC, .int .i64 (n : Int), .pointer (some ⟨g, go + n * 2, none⟩), .pointer (some ⟨g, go + n * 2, none⟩), .string kx, .pointer (some ⟨c2', 2, none⟩), .slice (some ⟨g2, go2, none⟩) cs.length cD, .int .i64 (n : Int), .pointer (some ⟨g2, go2 + n * 2, none⟩), .pointer (some ⟨g2, go2 + n * 2, none⟩), .string jC, .bool false, .bool false, .pointer (some ⟨c1', 2, none⟩), .slice (some ⟨g, go, none⟩) cs.length cC, .int .i64 (n : Int), .pointer (some ⟨g, go + n * 2, none⟩), .pointer (some ⟨g, go + n * 2 + 1, none⟩), .slice oA ts.length cA, .pointer (some ⟨c2', 2, none⟩), .slice (some ⟨g2, go2, none⟩) cs.length cD, .int .i64 (n : Int), .pointer (some ⟨g2, go2 + n * 2, none⟩), .pointer (some ⟨g2, go2 + n * 2 + 1, none⟩), .slice oB ts2.length cB, .bool A, .bool (!A), .bool (!A)]) rfl (fun i hi => by rw [← hev i hi]; exact hG i hi);clear hev hxl hF hG hB e1 e2 e3 e4 c2 d2 HEq fU;simp only [List.take_succ_cons, List.take_zero, List.drop_succ_cons, List.drop_zero, List.cons_append, List.nil_append];cases A with
                              | false =>
                                have HS : Hid (R = false) := ae (by rw [← jb.out]; rfl);clear jb;go_wp2;go_ret;exact ⟨aO HS.out.symm, nJ.out⟩
                              | true =>
                                have HS : Hid ((bD (jP m) (cs.drop (n + 1)) (gI.drop (n + 1)) && rest) = R) := ae (by rw [← jb.out]; rfl);clear jb;go_wp2;go_roundw
                                case rel => exact ⟨n + 1, by first | rfl | (congr 1), hpn, HS, dF⟩
                                case measure => first | exact qL hpn mV | (simp; exact qL hpn mV)
                        · have v1 : decide ((n : Int) < (cs.length : Int)) = false := decide_eq_false (by omega)
                          have HS : Hid (bD (nX false m) (ds.drop (i + 1)) (ks.drop (i + 1)) = R) := ae (by
                            have := HN.out;rw [nN (by omega) (by have := vG.out; omega), Bool.true_and] at this;rw [← Lu.out]; exact this)
                          clear HN;go_wp2;go_roundw
                          case rel => exact ⟨i + 1, by first | rfl | (congr 1), hik, HS, iq⟩
                          case measure => first | exact qL hik hw1 | (simp; exact qL hik hw1)
                · have HS : Hid (R = false) := ae (by rw [HD.out, mH hl2]; simp)
                  skip
                  clear HD;go_wp2;go_ret;exact ⟨aO HS.out.symm, fA.out⟩
              · have HS : Hid (R = false) := ae (by rw [HD.out, mH hl1]; simp)
                clear HD;go_wp2;go_ret;exact ⟨aO HS.out.symm, fA.out⟩
            | true =>
              rw [Bool.not_true, Bool.false_or] at HD;cases q9 : (pa == qa) with
              | false =>
                have r9 : (pa != qa) = true := by rw [bne, q9]; rfl
                have HS : Hid (R = false) := ae (by rw [HD.out, q9]; simp);clear HD;go_wp2;go_ret;exact ⟨aO HS.out.symm, fA.out⟩
              | true =>
                have r9 : (pa != qa) = false := by rw [bne, q9]; rfl
                rw [q9, Bool.true_and] at HD;by_cases hl1 : ps.length = dK.length
                · by_cases hl2 : cs.length = gI.length
                  · have vF := ae hl1
                    have vG := ae hl2;rw [← hl1] at d1;rw [← hl2] at d2;obtain ⟨rest, hrest⟩ : ∃ r, r = bD (nX true m) (ds.drop (i + 1)) (ks.drop (i + 1)) := ⟨_, rfl⟩;obtain ⟨RC, kN⟩ : ∃ r, r = (bD (jP m) cs gI && rest) := ⟨_, rfl⟩;have hD0 := HD.out;rw [← hrest, Bool.and_assoc, ← kN] at hD0;have Lu := ae hrest;have st1 : Hid ((bD (fun x y => decide (x = y)) (ps.drop 0) (dK.drop 0) && RC) = R) := ae hD0.symm;have tu := ae kN;have BB : Hid (Below u.heap.size u u) := ae (Below.refl _ _);clear hD0 HD hrest kN hl1 hl2;go_wp2_with fail;clear c0 d0 c1 d1 c2 d2 c3 d3;go_loopw [10] (fun a wr => ∃ j : Nat, a = .int .i64 j ∧ j ≤ ps.length ∧ Hid ((bD (fun x y => decide (x = y)) (ps.drop j) (dK.drop j) && RC) = R) ∧ Hid (Below u.heap.size u wr)) (fun a _ => match a with | .int _ j => ps.length - j.toNat | _ => 0)
                    case atStart => exact ⟨0, rfl, Nat.zero_le _, st1, BB⟩
                    case round =>
                      obtain ⟨j, rfl, hj, HN, aD⟩ := hrel;clear st1 BB;have k3 := (aD.out.block _ (Array.getElem?_eq_some_iff.1 H3.out).1).trans H3.out;have jU := (aD.out.block _ (Array.getElem?_eq_some_iff.1 gY.out).1).trans gY.out;have c1 := af k3 1 _ rfl;have d1 := af jU 1 _ rfl;rw [← vF.out] at d1;have iq := ae (ax fA.out aD.out);by_cases jT : j < ps.length
                      · obtain ⟨s1, hs1⟩ : ∃ s1, ps[j]? = some s1 := ⟨_, List.getElem?_eq_getElem jT⟩
                        obtain ⟨s2, hs2⟩ : ∃ s2, dK[j]? = some s2 := ⟨_, List.getElem?_eq_getElem (by have := vF.out; omega)⟩;obtain ⟨g, go, Lv, hg⟩ := S5.out j (.string s1) (by rw [List.getElem?_map, hs1]; rfl);obtain ⟨g2, go2, Ly, hg2⟩ := S9.out j (.string s2) (by rw [List.getElem?_map, hs2]; rfl);subst Lv;subst Ly;have e1 := ag iq.out hg.2;have e2 := ag iq.out hg2.2;rw [Nat.mul_one] at e1 e2;have v1 : decide ((j : Int) < (ps.length : Int)) = true := decide_eq_true (by omega);have mV := vW jT rH.out;have hdj := nL (f := fun x y => decide (x = y)) hs1 hs2;have mW := HN.out;rw [hdj, Bool.and_assoc] at mW;have hin : j < dK.length := by have := vF.out; omega
                        have HEq : Hid ((s1.toList == s2.toList) = decide (s1 = s2)) := ae (str_eq s1 s2);generalize decide (s1 = s2) = Bt at *;have jb := ae mW;clear hg hg2 hs1 hs2 HN hdj mW k3 jU;go_upto_region 12 with fail;refine ah.rf 11 71 118 [.pointer (some ⟨c1', 1, none⟩), .slice (some ⟨g, go, none⟩) ps.length cP, .int .i64 (j : Int), .pointer (some ⟨g, go + j, none⟩), .string s1, .pointer (some ⟨c2', 1, none⟩), .slice (some ⟨g2, go2, none⟩) ps.length cQ, .int .i64 (j : Int), .pointer (some ⟨g2, go2 + j, none⟩), .string s2, .bool (!Bt)] (by kernel_rfl) (by kernel_rfl) (by kernel_rfl) rfl ?hstep ?hend
                        case hstep =>
                          intro q o a v hq ho hF hB hd;have f8 : a.tmps[8]?.getD undef = .pointer (some ⟨c1', 0, none⟩) := ah.ak (hF.eval 8 (fun i hi => by show 71 + i ≠ 8; omega));have f9 : a.tmps[9]?.getD undef = .pointer (some ⟨c2', 0, none⟩) := ah.ak (hF.eval 9 (fun i hi => by show 71 + i ≠ 9; omega));have f10 : a.tmps[10]?.getD undef = .int .i64 (j : Int) := ah.ak (hF.eval 10 (fun i hi => by show 71 + i ≠ 10; omega));have e1 := ag hB e1;have e2 := ag hB e2;have c1 := ag hB c1;have d1 := ag hB d1;have he := HEq.out
                          iterate 11 (rcases Nat.lt_succ_iff_lt_or_eq.1 hq with hq | rfl)
                          exact absurd hq (Nat.not_lt_zero _)
                          all_goals (
                            simp only [List.getElem?_toArray, List.getElem?_cons_succ, List.getElem?_cons_zero, Option.some.injEq] at ho;subst ho;refine ah.Does.go rfl (ah.bh fun K hK => ?_);simp [ah.deps, Region.binds] at hd;go_simp
                            first | exact hK _ _ ⟨_, rfl, Below.refl _ _, rfl⟩ | exact hK _ _ ⟨_, rfl, Below.refl _ _, by simp [ah.oO, he]⟩)
                        case hend =>
                          intro a v hF hB hG;have dF := ae (ax aD.out hB);have nJ := ae (ax iq.out hB);obtain ⟨xl, hxl, rfl, hev⟩ := hF.lit (by simp);obtain rfl := ah.sN hxl (L := [.pointer (some ⟨c1', 1, none⟩), .slice (some ⟨g, go, none⟩) ps.length cP, .int .i64 (j : Int), .pointer (some ⟨g, go + j, none⟩), .string s1, .pointer (some ⟨c2', 1, none⟩), .slice (some ⟨g2, go2, none⟩) ps.length cQ, .int .i64 (j : Int), .pointer (some ⟨g2, go2 + j, none⟩), .string s2, .bool (!Bt)]) rfl (fun i hi => by rw [← hev i hi]; exact hG i hi);clear hev hxl hF hG hB e1 e2 c1 d1 HEq;simp only [List.take_succ_cons, List.take_zero, List.drop_succ_cons, List.drop_zero, List.cons_append, List.nil_append];cases Bt with
                          | false =>
                            have HS : Hid (R = false) := ae (by rw [← jb.out]; rfl);clear jb;go_wp2;go_ret;exact ⟨aO HS.out.symm, nJ.out⟩
                          | true =>
                            have HS : Hid ((bD (fun x y => decide (x = y)) (ps.drop (j + 1)) (dK.drop (j + 1)) && RC) = R) := ae (by rw [← jb.out]; rfl);clear jb;go_wp2;go_roundw
                            case rel => exact ⟨j + 1, by first | rfl | (congr 1), jT, HS, dF⟩
                            case measure => first | exact qL jT mV | (simp; exact qL jT mV)
                      · have v1 : decide ((j : Int) < (ps.length : Int)) = false := decide_eq_false (by omega)
                        have hRR : RC = R := by
                          have := HN.out;rw [nN (by omega) (by have := vF.out; omega), Bool.true_and] at this;exact this
                        have st2 : Hid ((bD (jP m) (cs.drop 0) (gI.drop 0) && rest) = R) := ae (by rw [← hRR]; exact tu.out.symm);have c2 := af k3 2 _ rfl;have d2 := af jU 2 _ rfl;have BB := ae aD.out;clear HN hRR tu k3 jU iq;go_wp2_with fail;clear c1 d1 c2 d2 aD;go_loopw [11] (fun a wr => ∃ j : Nat, a = .int .i64 j ∧ j ≤ cs.length ∧ Hid ((bD (jP m) (cs.drop j) (gI.drop j) && rest) = R) ∧ Hid (Below u.heap.size u wr)) (fun a _ => match a with | .int _ j => cs.length - j.toNat | _ => 0)
                        case atStart => exact ⟨0, rfl, Nat.zero_le _, st2, BB⟩
                        case round =>
                          obtain ⟨n, rfl, hn, HN, aD⟩ := hrel;clear st2 BB;have k3 := (aD.out.block _ (Array.getElem?_eq_some_iff.1 H3.out).1).trans H3.out;have jU := (aD.out.block _ (Array.getElem?_eq_some_iff.1 gY.out).1).trans gY.out;have c2 := af k3 2 _ rfl;have d2 := af jU 2 _ rfl;rw [← vG.out] at d2;have iq := ae (ax fA.out aD.out);by_cases hpn : n < cs.length
                          · obtain ⟨s1, hs1⟩ : ∃ s1, cs[n]? = some s1 := ⟨_, List.getElem?_eq_getElem hpn⟩
                            obtain ⟨s2, hs2⟩ : ∃ s2, gI[n]? = some s2 := ⟨_, List.getElem?_eq_getElem (by have := vG.out; omega)⟩;obtain ⟨g, go, uW, hg⟩ := vp.out n s1 hs1;obtain ⟨g2, go2, LA, hg2⟩ := Ta.out n s2 hs2;subst uW;subst LA;obtain ⟨kx, ku, ts, h0, e1, e2, _, dT, hr1⟩ := Bb hg;obtain ⟨jC, ku2, ts2, h02, e3, e4, _, LB, hr2⟩ := Bb hg2;obtain ⟨oA, cA, rfl, _⟩ := bz hr1;obtain ⟨oB, cB, rfl, _⟩ := bz hr2;have e1 := ag iq.out e1;have e2 := ag iq.out e2;have e3 := ag iq.out e3;have e4 := ag iq.out e4;have hfc : kW m ts := by have := Tc.out s1 (List.mem_of_getElem? hs1); rw [h0] at this; exact this
                            have fU := ae (fun (v : World) (hv : Below w.heap.size w v) => NJ m ts ts2 (.slice oA ts.length cA) (.slice oB ts2.length cB) v hfc ⟨dT, hr1.imp (fun b o t _ ht => dw.but (fun kk _ hl => hv.block kk hl) _ b o t ht)⟩ ⟨LB, hr2.imp (fun b o t _ ht => dw.but (fun kk _ hl => hv.block kk hl) _ b o t ht)⟩);have v1 : decide ((n : Int) < (cs.length : Int)) = true := decide_eq_true (by omega);have mV := vW hpn rT.out;have hdj := nL (f := jP m) hs1 hs2;have hsc : jP m s1 s2 = (decide (kx = jC) && dY false m ts ts2) := by rw [h0, h02]; rfl
                            have mW := HN.out;rw [hdj, hsc, Bool.and_assoc, Bool.and_assoc] at mW;have hin : n < gI.length := by have := vG.out; omega
                            have HEq : Hid ((kx.toList == jC.toList) = decide (kx = jC)) := ae (str_eq kx jC);generalize decide (kx = jC) = Bt at *;generalize dY false m ts ts2 = A at *;have jb := ae mW;clear hg hg2 hs1 hs2 HN hdj mW k3 jU hsc h0 h02 hr1 hr2 hfc;cases Bt with
                            | false =>
                              have HS : Hid (R = false) := ae (by rw [← jb.out]; rfl);clear jb;go_upto_region 17 with fail;refine ah.rf 29 89 118 [.pointer (some ⟨c1', 2, none⟩), .slice (some ⟨g, go, none⟩) cs.length cC, .int .i64 (n : Int), .pointer (some ⟨g, go + n * 2, none⟩), .pointer (some ⟨g, go + n * 2, none⟩), .string kx, .pointer (some ⟨c2', 2, none⟩), .slice (some ⟨g2, go2, none⟩) cs.length cD, .int .i64 (n : Int), .pointer (some ⟨g2, go2 + n * 2, none⟩), .pointer (some ⟨g2, go2 + n * 2, none⟩), .string jC, .bool true, .bool true, undef, undef, undef, undef, undef, undef, undef, undef, undef, undef, undef, undef, undef, undef, .bool true] (by kernel_rfl) (by kernel_rfl) (by kernel_rfl) rfl ?hstep ?hend
                              case hstep =>
                                intro q o a v hq ho hF hB hd;have f8 : a.tmps[8]?.getD undef = .pointer (some ⟨c1', 0, none⟩) := ah.ak (hF.eval 8 (fun i hi => by show 89 + i ≠ 8; omega));have f9 : a.tmps[9]?.getD undef = .pointer (some ⟨c2', 0, none⟩) := ah.ak (hF.eval 9 (fun i hi => by show 89 + i ≠ 9; omega));have f11 : a.tmps[11]?.getD undef = .int .i64 (n : Int) := ah.ak (hF.eval 11 (fun i hi => by show 89 + i ≠ 11; omega));have e1 := ag hB e1;have e2 := ag hB e2;have e3 := ag hB e3;have e4 := ag hB e4;have c2 := ag hB c2;have d2 := ag hB d2;have he := HEq.out;have hne : (kx.toList != jC.toList) = true := by rw [bne, he]; rfl
                                have uq := ae (fU.out v (ax iq.out hB))
                                iterate 29 (rcases Nat.lt_succ_iff_lt_or_eq.1 hq with hq | rfl)
                                exact absurd hq (Nat.not_lt_zero _)
                                all_goals (
                                  simp only [List.getElem?_toArray, List.getElem?_cons_succ, List.getElem?_cons_zero, Option.some.injEq] at ho;subst ho
                                  first
                                  | exact ah.vX rfl rfl rfl rfl (hd _ (by decide)) rfl
                                  | (first
                                    | refine ah.Does.go rfl (ah.bh fun K hK => ?_)
                                    | refine ah.vY rfl rfl rfl rfl (hd _ (by decide)) (ah.bh fun K hK => ?_)
                                     simp [ah.deps, Region.binds] at hd;go_simp
                                     first
                                     | exact hK _ _ ⟨_, rfl, Below.refl _ _, rfl⟩
                                     | exact hK _ _ ⟨_, rfl, Below.refl _ _, by simp [ah.oO, *]⟩
                                     | (refine Calls.mono (show Calls _ _ _ _ _ from uq.out) ?_; rintro e w' ⟨rfl, hw⟩; exact hK _ _ ⟨_, rfl, hw, rfl⟩)))
                              case hend =>
                                intro a v hF hB hG;have dF := ae (ax aD.out hB);have nJ := ae (ax iq.out hB);obtain ⟨xl, hxl, rfl, hev⟩ := hF.lit (by simp);obtain rfl := ah.sN hxl (L := [.pointer (some ⟨c1', 2, none⟩), .slice (some ⟨g, go, none⟩) cs.length cC, .int .i64 (n : Int), .pointer (some ⟨g, go + n * 2, none⟩), .pointer (some ⟨g, go + n * 2, none⟩), .string kx, .pointer (some ⟨c2', 2, none⟩), .slice (some ⟨g2, go2, none⟩) cs.length cD, .int .i64 (n : Int), .pointer (some ⟨g2, go2 + n * 2, none⟩), .pointer (some ⟨g2, go2 + n * 2, none⟩), .string jC, .bool true, .bool true, undef, undef, undef, undef, undef, undef, undef, undef, undef, undef, undef, undef, undef, undef, .bool true]) rfl (fun i hi => by rw [← hev i hi]; exact hG i hi);clear hev hxl hF hG hB e1 e2 e3 e4 c2 d2 HEq fU;simp only [List.take_succ_cons, List.take_zero, List.drop_succ_cons, List.drop_zero, List.cons_append, List.nil_append];go_wp2;go_ret;exact ⟨aO HS.out.symm, nJ.out⟩
                            | true =>
                              rw [Bool.true_and] at jb;go_upto_region 17 with fail;refine ah.rf 29 89 118 [.pointer (some ⟨c1', 2, none⟩), .slice (some ⟨g, go, none⟩) cs.length cC, .int .i64 (n : Int), .pointer (some ⟨g, go + n * 2, none⟩), .pointer (some ⟨g, go + n * 2, none⟩), .string kx, .pointer (some ⟨c2', 2, none⟩), .slice (some ⟨g2, go2, none⟩) cs.length cD, .int .i64 (n : Int), .pointer (some ⟨g2, go2 + n * 2, none⟩), .pointer (some ⟨g2, go2 + n * 2, none⟩), .string jC, .bool false, .bool false, .pointer (some ⟨c1', 2, none⟩), .slice (some ⟨g, go, none⟩) cs.length cC, .int .i64 (n : Int), .pointer (some ⟨g, go + n * 2, none⟩), .pointer (some ⟨g, go + n * 2 + 1, none⟩), .slice oA ts.length cA, .pointer (some ⟨c2', 2, none⟩), .slice (some ⟨g2, go2, none⟩) cs.length cD, .int .i64 (n : Int), .pointer (some ⟨g2, go2 + n * 2, none⟩), .pointer (some ⟨g2, go2 + n * 2 + 1, none⟩), .slice oB ts2.length cB, .bool A, .bool (!A), .bool (!A)] (by kernel_rfl) (by kernel_rfl) (by kernel_rfl) rfl ?hstep ?hend
                              case hstep =>
                                intro q o a v hq ho hF hB hd;have f8 : a.tmps[8]?.getD undef = .pointer (some ⟨c1', 0, none⟩) := ah.ak (hF.eval 8 (fun i hi => by show 89 + i ≠ 8; omega));have f9 : a.tmps[9]?.getD undef = .pointer (some ⟨c2', 0, none⟩) := ah.ak (hF.eval 9 (fun i hi => by show 89 + i ≠ 9; omega));have f11 : a.tmps[11]?.getD undef = .int .i64 (n : Int) := ah.ak (hF.eval 11 (fun i hi => by show 89 + i ≠ 11; omega));have e1 := ag hB e1;have e2 := ag hB e2;have e3 := ag hB e3;have e4 := ag hB e4;have c2 := ag hB c2;have d2 := ag hB d2;have he := HEq.out;have hne : (kx.toList != jC.toList) = false := by rw [bne, he]; rfl
                                have uq := ae (fU.out v (ax iq.out hB))
                                iterate 29 (rcases Nat.lt_succ_iff_lt_or_eq.1 hq with hq | rfl)
                                exact absurd hq (Nat.not_lt_zero _)
                                all_goals (
                                  simp only [List.getElem?_toArray, List.getElem?_cons_succ, List.getElem?_cons_zero, Option.some.injEq] at ho;subst ho
                                  first
                                  | exact ah.vX rfl rfl rfl rfl (hd _ (by decide)) rfl
                                  | (first
                                    | refine ah.Does.go rfl (ah.bh fun K hK => ?_)
                                    | refine ah.vY rfl rfl rfl rfl (hd _ (by decide)) (ah.bh fun K hK => ?_)
                                     simp [ah.deps, Region.binds] at hd;go_simp
                                     first
                                     | exact hK _ _ ⟨_, rfl, Below.refl _ _, rfl⟩
                                     | exact hK _ _ ⟨_, rfl, Below.refl _ _, by simp [ah.oO, *]⟩
                                     | (refine Calls.mono (show Calls _ _ _ _ _ from uq.out) ?_; rintro e w' ⟨rfl, hw⟩; exact hK _ _ ⟨_, rfl, hw, rfl⟩)))
                              case hend =>
                                intro a v hF hB hG;have dF := ae (ax aD.out hB);have nJ := ae (ax iq.out hB);obtain ⟨xl, hxl, rfl, hev⟩ := hF.lit (by simp);obtain rfl := ah.sN hxl (L := [.pointer (some ⟨c1', 2, none⟩), .slice (some ⟨g, go, none⟩) cs.length cC, .int .i64 (n : Int), .pointer (some ⟨g, go + n * 2, none⟩), .pointer (some ⟨g, go + n * 2, none⟩), .string kx, .pointer (some ⟨c2', 2, none⟩), .slice (some ⟨g2, go2, none⟩) cs.length cD, .int .i64 (n : Int), .pointer (some ⟨g2, go2 + n * 2, none⟩), .pointer (some ⟨g2, go2 + n * 2, none⟩), .string jC, .bool false, .bool false, .pointer (some ⟨c1', 2, none⟩), .slice (some ⟨g, go, none⟩) cs.length cC, .int .i64 (n : Int), .pointer (some ⟨g, go + n * 2, none⟩), .pointer (some ⟨g, go + n * 2 + 1, none⟩), .slice oA ts.length cA, .pointer (some ⟨c2', 2, none⟩), .slice (some ⟨g2, go2, none⟩) cs.length cD, .int .i64 (n : Int), .pointer (some ⟨g2, go2 + n * 2, none⟩), .pointer (some ⟨g2, go2 + n * 2 + 1, none⟩), .slice oB ts2.length cB, .bool A, .bool (!A), .bool (!A)]) rfl (fun i hi => by rw [← hev i hi]; exact hG i hi);clear hev hxl hF hG hB e1 e2 e3 e4 c2 d2 HEq fU;simp only [List.take_succ_cons, List.take_zero, List.drop_succ_cons, List.drop_zero, List.cons_append, List.nil_append];cases A with
                                | false =>
                                  have HS : Hid (R = false) := ae (by rw [← jb.out]; rfl);clear jb;go_wp2;go_ret;exact ⟨aO HS.out.symm, nJ.out⟩
                                | true =>
                                  have HS : Hid ((bD (jP m) (cs.drop (n + 1)) (gI.drop (n + 1)) && rest) = R) := ae (by rw [← jb.out]; rfl);clear jb;go_wp2;go_roundw
                                  case rel => exact ⟨n + 1, by first | rfl | (congr 1), hpn, HS, dF⟩
                                  case measure => first | exact qL hpn mV | (simp; exact qL hpn mV)
                          · have v1 : decide ((n : Int) < (cs.length : Int)) = false := decide_eq_false (by omega)
                            have HS : Hid (bD (nX true m) (ds.drop (i + 1)) (ks.drop (i + 1)) = R) := ae (by
                              have := HN.out;rw [nN (by omega) (by have := vG.out; omega), Bool.true_and] at this;rw [← Lu.out]; exact this)
                            clear HN;go_wp2;go_roundw
                            case rel => exact ⟨i + 1, by first | rfl | (congr 1), hik, HS, iq⟩
                            case measure => first | exact qL hik hw1 | (simp; exact qL hik hw1)
                  · have HS : Hid (R = false) := ae (by rw [HD.out, mH hl2]; simp)
                    skip
                    clear HD;go_wp2;go_ret;exact ⟨aO HS.out.symm, fA.out⟩
                · have HS : Hid (R = false) := ae (by rw [HD.out, mH hl1]; simp)
                  clear HD;go_wp2;go_ret;exact ⟨aO HS.out.symm, fA.out⟩
      · have q1 : decide ((i : Int) < (ds.length : Int)) = false := decide_eq_false (by omega)
        have HS : Hid (R = true) := ae (by rw [← HN.out]; exact nN (by omega) (by have := gW.out; omega));clear HN;go_wp2;go_ret;exact ⟨aO HS.out.symm, HB2.out⟩
  · have HS : Hid (R = false) := ae (by rw [hR, mH hlen])
    clear hR h hk hel hes hf;go_enter Tryz.func32, Tryz.ntmps32;go_wp2;go_ret;exact ⟨aO HS.out.symm, Below.refl _ _⟩
end Go.Proofs.YtkdbgopgjbfhbaaGreatDoor
