/- Texts that the claim needs. -/
import Derived.Test.YtegboefdolfdgaaGreatDoorQDM31
import Derived.Deep.RegionLaw
import Derived.Deep.CutRange
namespace Go.Proofs.YtegboefdolfdgaaGreatDoor
open Go.RowKit aA ai
set_option linter.unusedVariables false
set_option maxRecDepth 100000
set_option maxHeartbeats 16000000
theorem LM (w0 wS : World) (p q : Nat) (s : ByteArray) (en i n : Nat) (c : Nat → Value) (ps : List (Pe (kZ 81))) (u : World) (h : LE w0 wS p q 8 8 80 (fW 81) s en i n 0 c ps u) (hps : ps.length ≤ 4096) : Calls Tryz.prog 34 #[.pointer (some ⟨p, 0, none⟩), .int .i64 9, .pointer (some ⟨q, 0, none⟩)] u (YE w0 wS p q 8 8 80 (fW 81) s en c ps (lift (lj 81 s en i) n)) := by
  have hK : dH (fW 81) := (A7 81);have H0 := aa h;clear h;obtain ⟨G, hG⟩ : ∃ G, G = lift (lj 81 s en i) n := ⟨_, rfl⟩;rw [← hG];have HG := aa hG;clear hG;go_enter Tryz.func34, Tryz.ntmps34;have HC := aa (nX w0 p s en i n 0 u H0.out.dm.ds 0 (.inl rfl));go_wp2_with fail;refine HC.out.mono ?_;rintro e u1 ⟨rfl, i1, n1, z1, h1, h2, hf⟩;have H1 := aa (H0.out.call hK h1 h2);have fC := aa hf;clear h1 h2 hf HC H0;have HC := aa (xL w0 p s en i1 n1 z1 u1 H1.out.dm.ds 81);go_wp2_with fail;refine HC.out.mono ?_;rintro e ub ⟨op, a1, b1, m1, o4, n4, k4, o5, n5, k5, o6, n6, k6, i2, n2, z2, rfl, h1, h2, hf⟩;obtain ⟨x0, xM, hx0⟩ := Fits.ex (⟨0, 0, 0, 0, [], none_ 81, none_ 81⟩ : Ins (IL 81)) hf;have oO := H1.out.call hK h1 h2;obtain ⟨xb, gT⟩ : ∃ xb, xb = ub.heap.size := ⟨_, rfl⟩;obtain ⟨u2, hu2⟩ : ∃ u2, u2 = ub.alloc (.cells #[.int .i64 op, .int .i64 a1, .int .i64 b1, .int .i64 m1, .slice o4 n4 k4, .slice o5 n5 k5, .slice o6 n6 k6] 73) := ⟨_, rfl⟩;have H2 : Hid (LE w0 wS p q 8 8 80 (fW 81) s en i2 n2 z2 c ps u2) := aa (by rw [hu2]; exact oO.on hK (aD _ _));have qW : Hid (u2.heap[xb]? = some (.cells #[.int .i64 op, .int .i64 a1, .int .i64 b1, .int .i64 m1, .slice o4 n4 k4, .slice o5 n5 k5, .slice o6 n6 k6] 73 (0, 0))) := aa (by rw [hu2, gT]; exact fB _ _ rfl);have Ct : Hid (∀ k, (c 8).ownBlock = some k → k < xb) := aa (fun k hk => by rw [gT]; exact (oO.own.lt k hk).2);have Cu : Hid (xb ≠ p) := aa (by have := oO.pw; have := oO.bu.size; omega);have Cv : Hid (z2 = 0 → oL 81 u2 (Since wS.heap.size u2 (c 8).ownBlock) x0 [.int .i64 op, .int .i64 a1, .int .i64 b1, .int .i64 m1, .slice o4 n4 k4, .slice o5 n5 k5, .slice o6 n6 k6]) := aa (fun hz => by rw [hu2]; exact lT 81 _ _ _ _ (fw (aD _ _)) _ _ (Cg H1.out.bu.size (fun k hk => (H1.out.own.lt k hk).2) (hx0 hz)));have gU := aa xM;clear h1 h2 hf xM hx0 oO HC H1;obtain ⟨X, hX⟩ : ∃ X, X = aG z2 (lift (bd (rl s en i2) fun l j => (.ok ((⟨x0, l⟩ : kZ 81), j) : R (kZ 81))) n2) := ⟨_, rfl⟩;have HX := aa hX;clear hX;go_upto_region 21 with fail;rw [← hu2, ← gT];clear hu2 gT;have bG : Hid (LE w0 wS p q 8 8 80 (fW 81) s en i2 n2 z2 c ps { u2 with drawn := u2.drawn + 1 }) := aa (H2.out.on hK (gV _));clear H2;refine af.qd 14 116 148 (fun j => [.pointer (some ⟨q, 0, none⟩), .pointer (some ⟨q, 0, none⟩), .pointer (some ⟨q, 0, none⟩), .pointer (some ⟨q, 8, none⟩), (c 8), (.agg #[.int .i64 op, .int .i64 a1, .int .i64 b1, .int .i64 m1, .slice o4 n4 k4, .slice o5 n5 k5, .slice o6 n6 k6]), .pointer (some ⟨p, 0, none⟩), undef, undef, undef, undef, undef, undef, undef].getD j undef) [7, 8, 9, 10, 11, 12, 13] (fun w => w.cell? ⟨q, 8, none⟩ = some (c 8) ∧ (w.heap[xb]? = some (.cells #[.int .i64 op, .int .i64 a1, .int .i64 b1, .int .i64 m1, .slice o4 n4 k4, .slice o5 n5 k5, .slice o6 n6 k6] 73 (0, 0)) ∧ (z2 = 0 → oL 81 w (Since wS.heap.size w (c 8).ownBlock) x0 [.int .i64 op, .int .i64 a1, .int .i64 b1, .int .i64 m1, .slice o4 n4 k4, .slice o5 n5 k5, .slice o6 n6 k6]))) (vW (LE w0 wS p q 8 8 80 (fW 81) s en i2 n2 z2 c ps) (UZ w0 wS p q 8 8 80 (fW 81) s en c ps (fun (y : Option Addr × Nat × Nat) => ([.int .i64 op, .int .i64 a1, .int .i64 b1, .int .i64 m1, .slice o4 n4 k4, .slice o5 n5 k5, .slice o6 n6 k6] ++ [.slice y.1 y.2.1 y.2.2])) X (fun (y : Option Addr × Nat × Nat) => .slice y.1 y.2.1 y.2.2)) (UA w0 wS p q 8 8 80 (fW 81) s en c ps (fun (y : Option Addr × Nat × Nat) => ([.int .i64 op, .int .i64 a1, .int .i64 b1, .int .i64 m1, .slice o4 n4 k4, .slice o5 n5 k5, .slice o6 n6 k6] ++ [.slice y.1 y.2.1 y.2.2])) X) (UB w0 wS p q 8 8 80 (fW 81) s en c ps (fun (y : Option Addr × Nat × Nat) => ([.int .i64 op, .int .i64 a1, .int .i64 b1, .int .i64 m1, .slice o4 n4 k4, .slice o5 n5 k5, .slice o6 n6 k6] ++ [.slice y.1 y.2.1 y.2.2])) X) (UC w0 wS p q 8 8 80 (fW 81) s en c ps X) (UD w0 wS p q 8 8 80 (fW 81) s en c ps X) (.pointer (some ⟨q, 0, none⟩)) (.pointer (some ⟨q, 8, none⟩))) (by kernel_rfl) rfl (by kernel_rfl) rfl AQ ?hread ?iV ?hend (⟨(bG.out.dm.cell 8 (by decide)), AR qW.out (gV _), fun hz => lT 81 _ _ _ _ (fw (gV _)) _ _ (Cv.out hz)⟩) (fun _ => bG.out)
  case hread =>
    intro j o a w hi hc ho hF hS hd;clear bG;obtain ⟨hS, ll, LN⟩ := hS;have f0 : a.tmps[0]?.getD undef = .pointer (some ⟨p, 0, none⟩) := af.av (hF.eval 0 (.inl (by decide)));have f2 : a.tmps[2]?.getD undef = .pointer (some ⟨q, 0, none⟩) := af.av (hF.eval 2 (.inl (by decide)));have f7 : a.tmps[7]?.getD undef = .pointer (some ⟨xb, 0, none⟩) := af.av (hF.eval 7 (.inl (by decide)));have jo := ko (j := 0) ll rfl;have jr := ko (j := 1) ll rfl;have ju := ko (j := 2) ll rfl;have sU := ko (j := 3) ll rfl;have sV := ko (j := 4) ll rfl;have sW := ko (j := 5) ll rfl;have sZ := ko (j := 6) ll rfl
    iterate 14 (rcases Nat.lt_succ_iff_lt_or_eq.1 hi with hi | rfl)
    exact absurd hi (Nat.not_lt_zero _)
    all_goals (first
      | exact absurd hc (by decide)
      | (simp only [List.getElem?_toArray, List.getElem?_cons_succ, List.getElem?_cons_zero, Option.some.injEq] at ho
         subst ho;refine af.aR fun KK au => ?_;simp [af.deps, Region.binds] at hd;go_simp;exact au _ _ ⟨rfl, rfl⟩))
  case iV =>
    intro k j o a w hk ho hF hS hU hd;clear bG;have f0 : a.tmps[0]?.getD undef = .pointer (some ⟨p, 0, none⟩) := af.av (hF.eval 0 (.inl (by decide)));have hkl : k < 7 := (List.getElem?_eq_some_iff.1 hk).1
    iterate 7 (rcases Nat.lt_succ_iff_lt_or_eq.1 hkl with hkl | rfl)
    exact absurd hkl (Nat.not_lt_zero _)
    all_goals (simp only [List.getElem?_cons_succ, List.getElem?_cons_zero, Option.some.injEq] at hk; subst hk; simp only [List.getElem?_toArray, List.getElem?_cons_succ, List.getElem?_cons_zero, Option.some.injEq] at ho; subst ho)
    · have hL : LE w0 wS p q 8 8 80 (fW 81) s en i2 n2 z2 c ps w := hU
      refine af.aR fun KK au => ?_;simp [af.deps, Region.binds] at hd;have aL := aa au;have HL := aa hL;have HC := aa (Fy w0 p s en i2 n2 z2 w hL.dm.ds);clear hU hL au;go_simp;refine HC.out.mono ?_;intro e w2 hr;obtain ⟨l9, ya, yb, yt, i9, n9, z9, rfl, h1, h2, hf, hv⟩ := DR.list hr;exact aL.out _ _ ⟨_, rfl, fun _ => ⟨⟨(HL.out.dm.call h1 h2).cell 8 (by decide), uK hS.2.1 h2 Cu.out, fun hz => lT 81 _ _ _ _ (jQ HL.out.pw h2) _ _ (hS.2.2 hz)⟩, rfl⟩, ⟨(ya, yb, yt), i9, n9, z9, rfl, HL.out.call hK h1 h2, by rw [HX.out]; exact Fits.oP hf (fun y hy h0 => by subst hy; subst h0; rw [bJ]; exact ⟨⟨_, _, rfl, lT 81 _ _ _ _ (jQ HL.out.pw h2) _ _ (hS.2.2 (hf.zero rfl)), (hv rfl).keep (kG HL.out.bu.size (fun k hk => (HL.out.own.lt k hk).2))⟩, rfl, rfl, rfl⟩) (fun _ => rfl)⟩⟩
    · have hA : UZ w0 wS p q 8 8 80 (fW 81) s en c ps (fun (y : Option Addr × Nat × Nat) => ([.int .i64 op, .int .i64 a1, .int .i64 b1, .int .i64 m1, .slice o4 n4 k4, .slice o5 n5 k5, .slice o6 n6 k6] ++ [.slice y.1 y.2.1 y.2.2])) X (fun (y : Option Addr × Nat × Nat) => .slice y.1 y.2.1 y.2.2) (a.eval (.tmp 123)) w := hU
      obtain ⟨y, i9, n9, z9, hv, h1, h2⟩ := hA;obtain ⟨ya, yb, yt⟩ := y;have q1 : a.tmps[123]?.getD undef = .slice ya yb yt := af.av hv;have q5 := hd 5 (by decide) (by decide);simp at q5;refine af.aR fun KK au => ?_;have aL := aa au;have HA := aa (⟨(ya, yb, yt), i9, n9, z9, rfl, h1, h2⟩ : UA w0 wS p q 8 8 80 (fW 81) s en c ps (fun (y : Option Addr × Nat × Nat) => ([.int .i64 op, .int .i64 a1, .int .i64 b1, .int .i64 m1, .slice o4 n4 k4, .slice o5 n5 k5, .slice o6 n6 k6] ++ [.slice y.1 y.2.1 y.2.2])) X (.agg #[.int .i64 op, .int .i64 a1, .int .i64 b1, .int .i64 m1, .slice o4 n4 k4, .slice o5 n5 k5, .slice o6 n6 k6, .slice ya yb yt]) w);clear hU au h1 h2 hd;go_simp;exact aL.out _ _ ⟨_, rfl, fun _ => ⟨hS, rfl⟩, HA.out⟩
    · have hA : UA w0 wS p q 8 8 80 (fW 81) s en c ps (fun (y : Option Addr × Nat × Nat) => ([.int .i64 op, .int .i64 a1, .int .i64 b1, .int .i64 m1, .slice o4 n4 k4, .slice o5 n5 k5, .slice o6 n6 k6] ++ [.slice y.1 y.2.1 y.2.2])) X (a.eval (.tmp 124)) w := hU
      obtain ⟨y, i9, n9, z9, hv, h1, h2⟩ := id hA;obtain ⟨ya, yb, yt⟩ := y;have q1 : a.tmps[124]?.getD undef = .agg #[.int .i64 op, .int .i64 a1, .int .i64 b1, .int .i64 m1, .slice o4 n4 k4, .slice o5 n5 k5, .slice o6 n6 k6, .slice ya yb yt] := af.av hv;refine af.aR fun KK au => ?_;have aL := aa au;have HA := aa (UB.of hK hA hv);have HD := aa h1;clear hU hA au h1 h2 hd;go_simp;exact aL.out _ _ ⟨_, rfl, fun _ => ⟨⟨((HD.out.dm.on (aD _ _)).cell 8 (by decide)), AR hS.2.1 (aD _ _), fun hz => lT 81 _ _ _ _ (fw (aD _ _)) _ _ (hS.2.2 hz)⟩, rfl⟩, HA.out⟩
    · have hB : UB w0 wS p q 8 8 80 (fW 81) s en c ps (fun (y : Option Addr × Nat × Nat) => ([.int .i64 op, .int .i64 a1, .int .i64 b1, .int .i64 m1, .slice o4 n4 k4, .slice o5 n5 k5, .slice o6 n6 k6] ++ [.slice y.1 y.2.1 y.2.2])) X (a.eval (.tmp 125)) w := hU
      obtain ⟨y, i9, n9, z9, g, hv, hc, h1, h2⟩ := hB;obtain ⟨ya, yb, yt⟩ := y;have q4 : a.eval (.tmp 120) = c 8 := by have := hd 4 (by decide) (by decide); show a.tmps.getD 120 undef = _; rw [Array.getD_eq_getD_getElem?]; exact this
      obtain ⟨i0, hi, hz0, hz1, hz2⟩ := info_parts FG;refine qQ _ _ 30 rfl wS.heap.size 80 i0 _ 8 128 Tryz.underlying30 hi hz0 hz1 hz2 rfl (by decide) _ _ _ q4 h1.own (some ⟨g, 0, none⟩) 1 1 [.int .i64 op, .int .i64 a1, .int .i64 b1, .int .i64 m1, .slice o4 n4 k4, .slice o5 n5 k5, .slice o6 n6 k6, .slice ya yb yt] hv (by intro h; cases h) rfl (fun ad h => by injection h with h; subst h; exact hc) (by intro v hv; simp only [List.mem_cons, List.mem_nil_iff, or_false] at hv; rcases hv with rfl | rfl | rfl | rfl | rfl | rfl | rfl | rfl <;> rfl) (by unfold maxLen; omega) (by omega) h1.bu.size ?_
      intro v9 w9 hown hg aN;have fZ : UC w0 wS p q 8 8 80 (fW 81) s en c ps X v9 w9 := UC.of hK (by decide) (y := (ya, yb, yt)) (V := (fun (y : Option Addr × Nat × Nat) => ([.int .i64 op, .int .i64 a1, .int .i64 b1, .int .i64 m1, .slice o4 n4 k4, .slice o5 n5 k5, .slice o6 n6 k6] ++ [.slice y.1 y.2.1 y.2.2]))) rfl h1 h2 hown hg aN;exact ⟨_, rfl, fun _ => ⟨⟨(by obtain ⟨_, _, _, _, hm, _⟩ := fZ; exact hm.cell 8 (by decide)), Fq hS.2.1 hg Ct.out, fun hz => lT 81 _ _ _ _ (Cf hg) _ _ (hS.2.2 hz)⟩, rfl⟩, fZ⟩
    · have hC : UC w0 wS p q 8 8 80 (fW 81) s en c ps X (a.eval (.tmp 126)) w := hU
      have q1 := hd 0 (by decide) (by decide);refine af.aR fun KK au => ?_;have aL := aa au;have HC := aa hC;clear hU hC au hd;simp at q1;go_simp;exact aL.out _ _ ⟨_, rfl, fun _ => ⟨hS, rfl⟩, rfl, HC.out⟩
    · have hC : a.eval (.tmp 127) = .pointer (some ⟨q, 0, none⟩) ∧ UC w0 wS p q 8 8 80 (fW 81) s en c ps X (a.eval (.tmp 126)) w := hU
      have q1 : a.tmps[127]?.getD undef = .pointer (some ⟨q, 0, none⟩) := af.av hC.1;refine af.aR fun KK au => ?_;have aL := aa au;have HC := aa hC.2;clear hU hC au hd;go_simp;exact aL.out _ _ ⟨_, rfl, fun _ => ⟨hS, rfl⟩, rfl, HC.out⟩
    · have hC : a.eval (.tmp 128) = .pointer (some ⟨q, 8, none⟩) ∧ UC w0 wS p q 8 8 80 (fW 81) s en c ps X (a.eval (.tmp 126)) w := hU
      have q1 : a.tmps[128]?.getD undef = .pointer (some ⟨q, 8, none⟩) := af.av hC.1;obtain ⟨i9, n9, z9, hsl, hm, _, _⟩ := id hC.2;have fz := hm.ag 8;obtain ⟨v9, aN⟩ : ∃ v9, a.eval (.tmp 126) = v9 := ⟨_, rfl⟩;have q2 : a.tmps[126]?.getD undef = v9 := af.av aN;rw [aN] at hC hsl;obtain ⟨o9, k9, m9, rfl⟩ := hsl;have HD := aa (UC.put (by decide) hC.2);refine af.aR fun KK au => ?_;have aL := aa au;clear hU hC au hm hd aN;go_simp;exact aL.out a _ ⟨undef, rfl, fun h => absurd h (by decide), HD.out⟩
  case hend =>
    intro a w hF ⟨f9, _, hU⟩;have hD : UD w0 wS p q 8 8 80 (fW 81) s en c ps X (f9 6) w := hU;have HD := aa hD;clear hU hD bG;have kH := aa hF.defers;clear hF;go_wp2;obtain ⟨i9, n9, z9, c9, h1, h2, h3, h4⟩ := HD.out;exact bodyPost_end (results_none rfl _ _ _) kH.out ⟨rfl, i9, n9, z9, c9, h1, h2, h3, by rw [HG.out]; rw [HX.out] at h4; exact Fits.bd fC.out.t (Fits.cQ gU.out h4)⟩
theorem LO (w0 wS : World) (p q : Nat) (s : ByteArray) (en i n : Nat) (c : Nat → Value) (ps : List (Pe (Dat 81))) (u : World) (h : LE w0 wS p q 9 8 82 (gb 81) s en i n 0 c ps u) (hps : ps.length ≤ 4096) : Calls Tryz.prog 34 #[.pointer (some ⟨p, 0, none⟩), .int .i64 11, .pointer (some ⟨q, 0, none⟩)] u (YE w0 wS p q 9 8 82 (gb 81) s en c ps (lift (lq 81 s en i) n)) := by
  have hK : dH (gb 81) := (A8 81);have H0 := aa h;clear h;obtain ⟨G, hG⟩ : ∃ G, G = lift (lq 81 s en i) n := ⟨_, rfl⟩;rw [← hG];have HG := aa hG;clear hG;go_enter Tryz.func34, Tryz.ntmps34;have HC := aa (nX w0 p s en i n 0 u H0.out.dm.ds 0 (.inl rfl));go_wp2_with fail;refine HC.out.mono ?_;rintro e u1 ⟨rfl, i1, n1, z1, h1, h2, hf⟩;have H1 := aa (H0.out.call hK h1 h2);have fC := aa hf;clear h1 h2 hf HC H0;have HC := aa (xL w0 p s en i1 n1 z1 u1 H1.out.dm.ds 81);go_wp2_with fail;refine HC.out.mono ?_;rintro e ub ⟨op, a1, b1, m1, o4, n4, k4, o5, n5, k5, o6, n6, k6, i2, n2, z2, rfl, h1, h2, hf⟩;obtain ⟨x0, xM, hx0⟩ := Fits.ex (⟨0, 0, 0, 0, [], none_ 81, none_ 81⟩ : Ins (IL 81)) hf;have oO := H1.out.call hK h1 h2;obtain ⟨xb, gT⟩ : ∃ xb, xb = ub.heap.size := ⟨_, rfl⟩;obtain ⟨u2, hu2⟩ : ∃ u2, u2 = ub.alloc (.cells #[.int .i64 op, .int .i64 a1, .int .i64 b1, .int .i64 m1, .slice o4 n4 k4, .slice o5 n5 k5, .slice o6 n6 k6] 73) := ⟨_, rfl⟩;have H2 : Hid (LE w0 wS p q 9 8 82 (gb 81) s en i2 n2 z2 c ps u2) := aa (by rw [hu2]; exact oO.on hK (aD _ _));have qW : Hid (u2.heap[xb]? = some (.cells #[.int .i64 op, .int .i64 a1, .int .i64 b1, .int .i64 m1, .slice o4 n4 k4, .slice o5 n5 k5, .slice o6 n6 k6] 73 (0, 0))) := aa (by rw [hu2, gT]; exact fB _ _ rfl);have Ct : Hid (∀ k, (c 9).ownBlock = some k → k < xb) := aa (fun k hk => by rw [gT]; exact (oO.own.lt k hk).2);have Cu : Hid (xb ≠ p) := aa (by have := oO.pw; have := oO.bu.size; omega);have Cv : Hid (z2 = 0 → oL 81 u2 (Since wS.heap.size u2 (c 9).ownBlock) x0 [.int .i64 op, .int .i64 a1, .int .i64 b1, .int .i64 m1, .slice o4 n4 k4, .slice o5 n5 k5, .slice o6 n6 k6]) := aa (fun hz => by rw [hu2]; exact lT 81 _ _ _ _ (fw (aD _ _)) _ _ (Cg H1.out.bu.size (fun k hk => (H1.out.own.lt k hk).2) (hx0 hz)));have gU := aa xM;clear h1 h2 hf xM hx0 oO HC H1;obtain ⟨X, hX⟩ : ∃ X, X = aG z2 (lift (bd (lU s en i2) fun l j => (.ok ((⟨x0, l⟩ : Dat 81), j) : R (Dat 81))) n2) := ⟨_, rfl⟩;have HX := aa hX;clear hX;go_upto_region 25 with fail;rw [← hu2, ← gT];clear hu2 gT;have bG : Hid (LE w0 wS p q 9 8 82 (gb 81) s en i2 n2 z2 c ps { u2 with drawn := u2.drawn + 1 }) := aa (H2.out.on hK (gV _));clear H2;refine af.qd 14 135 148 (fun j => [.pointer (some ⟨q, 0, none⟩), .pointer (some ⟨q, 0, none⟩), .pointer (some ⟨q, 0, none⟩), .pointer (some ⟨q, 9, none⟩), (c 9), (.agg #[.int .i64 op, .int .i64 a1, .int .i64 b1, .int .i64 m1, .slice o4 n4 k4, .slice o5 n5 k5, .slice o6 n6 k6]), .pointer (some ⟨p, 0, none⟩), undef, undef, undef, undef, undef, undef, undef].getD j undef) [7, 8, 9, 10, 11, 12, 13] (fun w => w.cell? ⟨q, 9, none⟩ = some (c 9) ∧ (w.heap[xb]? = some (.cells #[.int .i64 op, .int .i64 a1, .int .i64 b1, .int .i64 m1, .slice o4 n4 k4, .slice o5 n5 k5, .slice o6 n6 k6] 73 (0, 0)) ∧ (z2 = 0 → oL 81 w (Since wS.heap.size w (c 9).ownBlock) x0 [.int .i64 op, .int .i64 a1, .int .i64 b1, .int .i64 m1, .slice o4 n4 k4, .slice o5 n5 k5, .slice o6 n6 k6]))) (vW (LE w0 wS p q 9 8 82 (gb 81) s en i2 n2 z2 c ps) (UZ w0 wS p q 9 8 82 (gb 81) s en c ps (fun (y : ByteArray) => ([.int .i64 op, .int .i64 a1, .int .i64 b1, .int .i64 m1, .slice o4 n4 k4, .slice o5 n5 k5, .slice o6 n6 k6] ++ [.string y])) X (fun (y : ByteArray) => .string y)) (UA w0 wS p q 9 8 82 (gb 81) s en c ps (fun (y : ByteArray) => ([.int .i64 op, .int .i64 a1, .int .i64 b1, .int .i64 m1, .slice o4 n4 k4, .slice o5 n5 k5, .slice o6 n6 k6] ++ [.string y])) X) (UB w0 wS p q 9 8 82 (gb 81) s en c ps (fun (y : ByteArray) => ([.int .i64 op, .int .i64 a1, .int .i64 b1, .int .i64 m1, .slice o4 n4 k4, .slice o5 n5 k5, .slice o6 n6 k6] ++ [.string y])) X) (UC w0 wS p q 9 8 82 (gb 81) s en c ps X) (UD w0 wS p q 9 8 82 (gb 81) s en c ps X) (.pointer (some ⟨q, 0, none⟩)) (.pointer (some ⟨q, 9, none⟩))) (by kernel_rfl) rfl (by kernel_rfl) rfl AQ ?hread ?iV ?hend (⟨(bG.out.dm.cell 9 (by decide)), AR qW.out (gV _), fun hz => lT 81 _ _ _ _ (fw (gV _)) _ _ (Cv.out hz)⟩) (fun _ => bG.out)
  case hread =>
    intro j o a w hi hc ho hF hS hd;clear bG;obtain ⟨hS, ll, LN⟩ := hS;have f0 : a.tmps[0]?.getD undef = .pointer (some ⟨p, 0, none⟩) := af.av (hF.eval 0 (.inl (by decide)));have f2 : a.tmps[2]?.getD undef = .pointer (some ⟨q, 0, none⟩) := af.av (hF.eval 2 (.inl (by decide)));have f7 : a.tmps[8]?.getD undef = .pointer (some ⟨xb, 0, none⟩) := af.av (hF.eval 8 (.inl (by decide)));have jo := ko (j := 0) ll rfl;have jr := ko (j := 1) ll rfl;have ju := ko (j := 2) ll rfl;have sU := ko (j := 3) ll rfl;have sV := ko (j := 4) ll rfl;have sW := ko (j := 5) ll rfl;have sZ := ko (j := 6) ll rfl
    iterate 14 (rcases Nat.lt_succ_iff_lt_or_eq.1 hi with hi | rfl)
    exact absurd hi (Nat.not_lt_zero _)
    all_goals (first
      | exact absurd hc (by decide)
      | (simp only [List.getElem?_toArray, List.getElem?_cons_succ, List.getElem?_cons_zero, Option.some.injEq] at ho
         subst ho;refine af.aR fun KK au => ?_;simp [af.deps, Region.binds] at hd;go_simp;exact au _ _ ⟨rfl, rfl⟩))
  case iV =>
    intro k j o a w hk ho hF hS hU hd;clear bG;have f0 : a.tmps[0]?.getD undef = .pointer (some ⟨p, 0, none⟩) := af.av (hF.eval 0 (.inl (by decide)));have hkl : k < 7 := (List.getElem?_eq_some_iff.1 hk).1
    iterate 7 (rcases Nat.lt_succ_iff_lt_or_eq.1 hkl with hkl | rfl)
    exact absurd hkl (Nat.not_lt_zero _)
    all_goals (simp only [List.getElem?_cons_succ, List.getElem?_cons_zero, Option.some.injEq] at hk; subst hk; simp only [List.getElem?_toArray, List.getElem?_cons_succ, List.getElem?_cons_zero, Option.some.injEq] at ho; subst ho)
    · have hL : LE w0 wS p q 9 8 82 (gb 81) s en i2 n2 z2 c ps w := hU
      refine af.aR fun KK au => ?_;simp [af.deps, Region.binds] at hd;have aL := aa au;have HL := aa hL;have HC := aa (Cw w0 p s en i2 n2 z2 w hL.dm.ds);clear hU hL au;go_simp;refine HC.out.mono ?_;rintro e w2 ⟨ya, i9, n9, z9, rfl, h1, h2, hf, ht⟩;exact aL.out _ _ ⟨_, rfl, fun _ => ⟨⟨(HL.out.dm.call h1 h2).cell 9 (by decide), uK hS.2.1 h2 Cu.out, fun hz => lT 81 _ _ _ _ (jQ HL.out.pw h2) _ _ (hS.2.2 hz)⟩, rfl⟩, ⟨ya, i9, n9, z9, rfl, HL.out.call hK h1 h2, by rw [HX.out]; exact Fits.oP hf (fun y hy h0 => by subst hy; subst h0; rw [bJ]; exact ⟨⟨_, rfl, lT 81 _ _ _ _ (jQ HL.out.pw h2) _ _ (hS.2.2 (hf.zero rfl))⟩, rfl, rfl, rfl⟩) (fun _ => rfl)⟩⟩
    · have hA : UZ w0 wS p q 9 8 82 (gb 81) s en c ps (fun (y : ByteArray) => ([.int .i64 op, .int .i64 a1, .int .i64 b1, .int .i64 m1, .slice o4 n4 k4, .slice o5 n5 k5, .slice o6 n6 k6] ++ [.string y])) X (fun (y : ByteArray) => .string y) (a.eval (.tmp 142)) w := hU
      obtain ⟨y, i9, n9, z9, hv, h1, h2⟩ := hA;obtain ⟨ya, rfl⟩ : ∃ y9, y9 = y := ⟨_, rfl⟩;have q1 : a.tmps[142]?.getD undef = .string ya := af.av hv;have q5 := hd 5 (by decide) (by decide);simp at q5;refine af.aR fun KK au => ?_;have aL := aa au;have HA := aa (⟨ya, i9, n9, z9, rfl, h1, h2⟩ : UA w0 wS p q 9 8 82 (gb 81) s en c ps (fun (y : ByteArray) => ([.int .i64 op, .int .i64 a1, .int .i64 b1, .int .i64 m1, .slice o4 n4 k4, .slice o5 n5 k5, .slice o6 n6 k6] ++ [.string y])) X (.agg #[.int .i64 op, .int .i64 a1, .int .i64 b1, .int .i64 m1, .slice o4 n4 k4, .slice o5 n5 k5, .slice o6 n6 k6, .string ya]) w);clear hU au h1 h2 hd;go_simp;exact aL.out _ _ ⟨_, rfl, fun _ => ⟨hS, rfl⟩, HA.out⟩
    · have hA : UA w0 wS p q 9 8 82 (gb 81) s en c ps (fun (y : ByteArray) => ([.int .i64 op, .int .i64 a1, .int .i64 b1, .int .i64 m1, .slice o4 n4 k4, .slice o5 n5 k5, .slice o6 n6 k6] ++ [.string y])) X (a.eval (.tmp 143)) w := hU
      obtain ⟨y, i9, n9, z9, hv, h1, h2⟩ := id hA;obtain ⟨ya, rfl⟩ : ∃ y9, y9 = y := ⟨_, rfl⟩;have q1 : a.tmps[143]?.getD undef = .agg #[.int .i64 op, .int .i64 a1, .int .i64 b1, .int .i64 m1, .slice o4 n4 k4, .slice o5 n5 k5, .slice o6 n6 k6, .string ya] := af.av hv;refine af.aR fun KK au => ?_;have aL := aa au;have HA := aa (UB.of hK hA hv);have HD := aa h1;clear hU hA au h1 h2 hd;go_simp;exact aL.out _ _ ⟨_, rfl, fun _ => ⟨⟨((HD.out.dm.on (aD _ _)).cell 9 (by decide)), AR hS.2.1 (aD _ _), fun hz => lT 81 _ _ _ _ (fw (aD _ _)) _ _ (hS.2.2 hz)⟩, rfl⟩, HA.out⟩
    · have hB : UB w0 wS p q 9 8 82 (gb 81) s en c ps (fun (y : ByteArray) => ([.int .i64 op, .int .i64 a1, .int .i64 b1, .int .i64 m1, .slice o4 n4 k4, .slice o5 n5 k5, .slice o6 n6 k6] ++ [.string y])) X (a.eval (.tmp 144)) w := hU
      obtain ⟨y, i9, n9, z9, g, hv, hc, h1, h2⟩ := hB;obtain ⟨ya, rfl⟩ : ∃ y9, y9 = y := ⟨_, rfl⟩;have q4 : a.eval (.tmp 139) = c 9 := by have := hd 4 (by decide) (by decide); show a.tmps.getD 139 undef = _; rw [Array.getD_eq_getD_getElem?]; exact this
      obtain ⟨i0, hi, hz0, hz1, hz2⟩ := info_parts FH;refine qQ _ _ 31 rfl wS.heap.size 82 i0 _ 8 120 Tryz.underlying31 hi hz0 hz1 hz2 rfl (by decide) _ _ _ q4 h1.own (some ⟨g, 0, none⟩) 1 1 [.int .i64 op, .int .i64 a1, .int .i64 b1, .int .i64 m1, .slice o4 n4 k4, .slice o5 n5 k5, .slice o6 n6 k6, .string ya] hv (by intro h; cases h) rfl (fun ad h => by injection h with h; subst h; exact hc) (by intro v hv; simp only [List.mem_cons, List.mem_nil_iff, or_false] at hv; rcases hv with rfl | rfl | rfl | rfl | rfl | rfl | rfl | rfl <;> rfl) (by unfold maxLen; omega) (by omega) h1.bu.size ?_
      intro v9 w9 hown hg aN;have fZ : UC w0 wS p q 9 8 82 (gb 81) s en c ps X v9 w9 := UC.of hK (by decide) (y := ya) (V := (fun (y : ByteArray) => ([.int .i64 op, .int .i64 a1, .int .i64 b1, .int .i64 m1, .slice o4 n4 k4, .slice o5 n5 k5, .slice o6 n6 k6] ++ [.string y]))) rfl h1 h2 hown hg aN;exact ⟨_, rfl, fun _ => ⟨⟨(by obtain ⟨_, _, _, _, hm, _⟩ := fZ; exact hm.cell 9 (by decide)), Fq hS.2.1 hg Ct.out, fun hz => lT 81 _ _ _ _ (Cf hg) _ _ (hS.2.2 hz)⟩, rfl⟩, fZ⟩
    · have hC : UC w0 wS p q 9 8 82 (gb 81) s en c ps X (a.eval (.tmp 145)) w := hU
      have q1 := hd 0 (by decide) (by decide);refine af.aR fun KK au => ?_;have aL := aa au;have HC := aa hC;clear hU hC au hd;simp at q1;go_simp;exact aL.out _ _ ⟨_, rfl, fun _ => ⟨hS, rfl⟩, rfl, HC.out⟩
    · have hC : a.eval (.tmp 146) = .pointer (some ⟨q, 0, none⟩) ∧ UC w0 wS p q 9 8 82 (gb 81) s en c ps X (a.eval (.tmp 145)) w := hU
      have q1 : a.tmps[146]?.getD undef = .pointer (some ⟨q, 0, none⟩) := af.av hC.1;refine af.aR fun KK au => ?_;have aL := aa au;have HC := aa hC.2;clear hU hC au hd;go_simp;exact aL.out _ _ ⟨_, rfl, fun _ => ⟨hS, rfl⟩, rfl, HC.out⟩
    · have hC : a.eval (.tmp 147) = .pointer (some ⟨q, 9, none⟩) ∧ UC w0 wS p q 9 8 82 (gb 81) s en c ps X (a.eval (.tmp 145)) w := hU
      have q1 : a.tmps[147]?.getD undef = .pointer (some ⟨q, 9, none⟩) := af.av hC.1;obtain ⟨i9, n9, z9, hsl, hm, _, _⟩ := id hC.2;have fz := hm.ag 9;obtain ⟨v9, aN⟩ : ∃ v9, a.eval (.tmp 145) = v9 := ⟨_, rfl⟩;have q2 : a.tmps[145]?.getD undef = v9 := af.av aN;rw [aN] at hC hsl;obtain ⟨o9, k9, m9, rfl⟩ := hsl;have HD := aa (UC.put (by decide) hC.2);refine af.aR fun KK au => ?_;have aL := aa au;clear hU hC au hm hd aN;go_simp;exact aL.out a _ ⟨undef, rfl, fun h => absurd h (by decide), HD.out⟩
  case hend =>
    intro a w hF ⟨f9, _, hU⟩;have hD : UD w0 wS p q 9 8 82 (gb 81) s en c ps X (f9 6) w := hU;have HD := aa hD;clear hU hD bG;have kH := aa hF.defers;clear hF;go_wp2;obtain ⟨i9, n9, z9, c9, h1, h2, h3, h4⟩ := HD.out;exact bodyPost_end (results_none rfl _ _ _) kH.out ⟨rfl, i9, n9, z9, c9, h1, h2, h3, by rw [HG.out]; rw [HX.out] at h4; exact Fits.bd fC.out.t (Fits.cQ gU.out h4)⟩
namespace ai
def uJ (id:Int):Bool:=decide (0<=id/\id<=11)
def AZ:Mod 81:=⟨[],[],[],[],[],[],[],[],[],[]⟩
def tO:Sg:=⟨AZ,0,0⟩
def qi (st:Sg):Nat:=st.m.funcs.length
def wh (s:ByteArray):Nat->Int->Sg->Nat->Option (R Sg):=lg (bB s) uJ Sg.codes qi s s.size
theorem K8 (s:ByteArray):∀(f:Nat) (last:Int) (st:Sg) (i:Nat),s.size-i<f->∃X,wh s f last st i=some X
 | 0,last,st,i,h=>by omega
 | f+1,last,st,i,h=>by
  unfold wh lg;by_cases hi:i<s.size
  ·rw [if_pos hi];have hn:nx s s.size i=.ok (ae.bt s i,i+1):=by unfold nx;rw [if_pos hi]
   have hb:=ae.lQ s i;rw [hn];simp only [];by_cases h1:11<ae.bt s i
   ·rw [if_pos h1];exact ⟨_,rfl⟩
   ·rw [if_neg h1];by_cases h2:ae.bt s i≠0/\¬ last<ae.bt s i
    ·rw [if_pos h2];exact ⟨_,rfl⟩
    ·rw [if_neg h2,if_pos (show uJ (ae.bt s i)=true from decide_eq_true ⟨by omega,by omega⟩)];cases hz:dZ (bB s (ae.bt s i)) s st s.size (i+1) with
     | error z=>exact ⟨_,rfl⟩
     | ok v =>
      obtain ⟨st',m⟩:=v
      have:=vK (Nat.le_refl _) hz
      exact K8 s f _ st' m (by omega)
  ·rw [if_neg hi];exact ⟨_,rfl⟩
def lh (s:ByteArray):R Sg:=if 262144<s.size then .error 2 else if pfx s=false then .error 50 else (wh s (s.size+1) 0 tO 8).getD (.error 50)
theorem Cr (s:ByteArray):(if 262144<s.size then some (.error 2) else if pfx s=false then some (.error 50) else lg (bB s) uJ Sg.codes qi s s.size (s.size+1) 0 tO 8)=some (lh s):=by
 unfold lh;split
 ·rfl
 split
 ·rfl
 ·obtain ⟨X,hX⟩:=K8 s (s.size+1) 0 tO 8 (by omega);have UX:lg (bB s) uJ Sg.codes qi s s.size (s.size+1) 0 tO 8=some X:=hX;rw [hX,UX];rfl
theorem sH {α:Type} (n:Nat) (F:EA α) (w:World) (S:Nat->Prop):aI n F w S (.slice none 0 0) []:=⟨by simp,.inl ⟨rfl,none,0,rfl⟩⟩
theorem Cs (p:Nat) (w:World):MM p tO (fun _=>.slice none 0 0) 0 0 w :=
 ⟨rfl,rfl,by omega,0,sH _ _ _ _,sH _ _ _ _,sH _ _ _ _,sH _ _ _ _,sH _ _ _ _,sH _ _ _ _,sH _ _ _ _,sH _ _ _ _,sH _ _ _ _,none,0,0,fun _=>0,fun _=>.slice none 0 0,fun _=>.slice none 0 0,rfl,fun h=>absurd h (by decide),fun j f hj=>by simp [tO,AZ] at hj⟩
theorem sI {α:Type} {n:Nat} {F:EA α} {w:World} {S:Nat->Prop} {v:Value} {l:List α} (h:aI n F w S v l):∃o n k,v=.slice o n k:=by
 obtain ⟨o,k,e⟩:=Row.len h;exact ⟨o,_,k,e⟩
theorem Ii (p:Nat) (st:Sg) (c:Nat->Value) (k n:Nat) (w:World) (h:MM p st c k n w):(k=st.codes/\∃o cap,c 2=.slice o (qi st) cap)/\∀j,j<10->∃o n k,c j=.slice o n k:=by
 obtain ⟨h1,h2,h3,g,hG⟩:=h;obtain ⟨o,ob,cap,ty,a,b,e,_⟩:=hG.funcs;refine ⟨⟨h1,o,cap,e⟩,fun j hj=>?_⟩
 match j,hj with
 | 0,_=>exact sI hG.types
 | 1,_=>exact sI hG.imports
 | 2,_=>exact ⟨o,_,cap,e⟩
 | 3,_=>exact sI hG.tables
 | 4,_=>exact sI hG.dU
 | 5,_=>exact sI hG.globals
 | 6,_=>exact sI hG.exports
 | 7,_=>exact sI hG.start
 | 8,_=>exact sI hG.elems
 | 9,_=>exact sI hG.dV
theorem EY {d:Nat} {w:World} {S:Nat->Prop} {g o:Nat} {x:Ins (IL d)} (h:tq w S (ah w S d) g o x):mQ w (At w d) g o x :=
 ⟨h.op,h.a,h.b,h.n,let ⟨v,a,b⟩:=h.labels;⟨v,a,b.at⟩,let ⟨v,a,b⟩:=h.body;⟨v,a,ah.at d v _ b⟩,let ⟨v,a,b⟩:=h.els;⟨v,a,ah.at d v _ b⟩⟩
theorem FD {p:Nat} {st:Sg} {c:Nat->Value} {k n:Nat} {w:World} (h:MM p st c k n w) (hl:st.m.funcs.length<=9223372036854775807):pX w 81 (c 0) (c 1) (c 2) (c 3) (c 4) (c 5) (c 6) (c 7) (c 8) (c 9) st.m:=by
 obtain ⟨h1,h2,h3,g,hG⟩:=h;refine ⟨Row.imp hG.types fun b o x _ ⟨_,⟨v,a,b⟩,u,c,d⟩=>⟨⟨v,a,b.at⟩,u,c,d.at⟩,Row.imp hG.imports fun _ _ _ _ h=>h.2,?_,Row.imp hG.tables fun _ _ _ _ h=>h.2,Row.imp hG.dU fun _ _ _ _ h=>h.2,Row.imp hG.globals fun _ _ _ _ h=>⟨h.2.1,h.2.2.1,EY h.2.2.2⟩,Row.imp hG.exports fun _ _ _ _ h=>h.2,Row.imp hG.start fun _ _ _ _ h=>h.2,Row.imp hG.elems fun _ _ _ _ ⟨_,h,v,a,b⟩=>⟨EY h,v,a,b.at⟩,Row.imp hG.dV fun _ _ _ _ h=>⟨EY h.2.1,h.2.2⟩⟩;obtain ⟨o,ob,cap,ty,a,b,e,h4,h5⟩:=hG.funcs;rw [e];by_cases h0:0<st.m.funcs.length
 ·obtain ⟨rfl,hF,_⟩:=h4 h0;refine ⟨hl,.inr ⟨g,ob,cap,rfl,fun j f hj=>?_⟩⟩;have hjl:j<st.m.funcs.length:=(List.getElem?_eq_some_iff.1 hj).1;obtain ⟨c1,c2,c3⟩:=hF.cell hjl;obtain ⟨e1,e2,e3⟩:=h5 j f hj;rw [e1] at c1;exact ⟨c1,⟨_,c2,e2.at⟩,_,c3,ah.at 81 _ _ e3⟩
 ·have hn:st.m.funcs = []:=List.length_eq_zero_iff.1 (by omega);rw [hn];exact ⟨by simp,.inl ⟨rfl,o,cap,rfl⟩⟩
end ai
theorem UY {w0:World} {p:Nat} {s:ByteArray} (hU:∀u,Below w0.heap.size w0 u->iW u) {id:Int} (h:uJ id=true):kr w0 p s (MM p) (bB s id) id:=by
 have h:=of_decide_eq_true h;have hc:id=0\/id=1\/id=2\/id=3\/id=4\/id=5\/id=6\/id=7\/id=8\/id=9\/id=10\/id=11:=by omega
 rcases hc with rfl|rfl|rfl|rfl|rfl|rfl|rfl|rfl|rfl|rfl|rfl|rfl
 ·exact U0 hU
 ·exact U1
 ·exact U2 hU
 ·exact U3
 ·exact U4
 ·exact U5
 ·exact U6
 ·exact U7 hU
 ·exact U8
 ·exact U9
 ·exact OG
 ·exact Va
theorem S5 (s:ByteArray) (w:World) (hs:s.size<=4611686018427387904) (hU:iW w):Calls Tryz.prog 6 #[.string s] w (qj MM w (lh s)) :=
 Hj (M:=MM) (sec:=bB s) (ok:=uJ) (cd:=Sg.codes) (fl:=qi) (st0:=tO) s w hs K9 (fun w0 p id hb hid=>UY (fun u hu=>BM hU (cu hb hu)) hid) Ii Cs (s.size+1) (lh s) (Cr s)
end Go.Proofs.YtegboefdolfdgaaGreatDoor
