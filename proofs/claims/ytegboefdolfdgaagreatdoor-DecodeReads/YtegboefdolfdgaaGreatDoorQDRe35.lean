/- Texts that the claim needs. -/
import Derived.Test.YtegboefdolfdgaaGreatDoorQDRe31
import Derived.Deep.RegionLaw
import Derived.Deep.CutRange
import Derived.Test.YtegboefdolfdgaaGreatDoorQDRe32
namespace Go.Proofs.YtegboefdolfdgaaGreatDoor
open Go.RowKit aA ai
set_option linter.unusedVariables false
set_option maxRecDepth 100000
set_option maxHeartbeats 16000000
theorem Lg (w0 wS : World) (p q : Nat) (s : ByteArray) (en i n : Nat) (c : Nat → Value) (ps : List (Pe (kZ 81))) (u : World) (h : LE w0 wS p q 8 8 80 (fV 81) s en i n 0 c ps u) (hps : ps.length ≤ 4096) : Calls Tryz.prog 34 #[.pointer (some ⟨p, 0, none⟩), .int .i64 9, .pointer (some ⟨q, 0, none⟩)] u (YE w0 wS p q 8 8 80 (fV 81) s en c ps (lift (lj 81 s en i) n)) := by
  have hK : dH (fV 81) := (AJ 81);have H0 := aa h;clear h;obtain ⟨G, hG⟩ : ∃ G, G = lift (lj 81 s en i) n := ⟨_, rfl⟩;rw [← hG];have HG := aa hG;clear hG;go_enter Tryz.func34, Tryz.ntmps34;have HC := aa (nU w0 p s en i n 0 u H0.out.dm.ds 0 (.inl rfl));go_wp2_with fail;refine HC.out.mono ?_;rintro e u1 ⟨rfl, i1, n1, z1, h1, h2, hf⟩;have H1 := aa (H0.out.call hK h1 h2);have fA := aa hf;clear h1 h2 hf HC H0;have HC := aa (xE w0 p s en i1 n1 z1 u1 H1.out.dm.ds 81);go_wp2_with fail;refine HC.out.mono ?_;rintro e ub ⟨op, a1, b1, m1, o4, n4, k4, o5, n5, k5, o6, n6, k6, i2, n2, z2, rfl, h1, h2, hf⟩;obtain ⟨x0, xF, hx0⟩ := Fits.ex (⟨0, 0, 0, 0, [], none_ 81, none_ 81⟩ : Ins (IL 81)) hf;have oL := H1.out.call hK h1 h2;obtain ⟨xb, gQ⟩ : ∃ xb, xb = ub.heap.size := ⟨_, rfl⟩;obtain ⟨u2, hu2⟩ : ∃ u2, u2 = ub.alloc (.cells #[.int .i64 op, .int .i64 a1, .int .i64 b1, .int .i64 m1, .slice o4 n4 k4, .slice o5 n5 k5, .slice o6 n6 k6] 73) := ⟨_, rfl⟩;have H2 : Hid (LE w0 wS p q 8 8 80 (fV 81) s en i2 n2 z2 c ps u2) := aa (by rw [hu2]; exact oL.on hK (aD _ _));have qP : Hid (u2.heap[xb]? = some (.cells #[.int .i64 op, .int .i64 a1, .int .i64 b1, .int .i64 m1, .slice o4 n4 k4, .slice o5 n5 k5, .slice o6 n6 k6] 73 (0, 0))) := aa (by rw [hu2, gQ]; exact fI _ _ rfl);have Cg : Hid (∀ k, (c 8).ownBlock = some k → k < xb) := aa (fun k hk => by rw [gQ]; exact (oL.own.lt k hk).2);have Ch : Hid (xb ≠ p) := aa (by have := oL.pw; have := oL.bu.size; omega);have Ci : Hid (z2 = 0 → oI 81 u2 (Since wS.heap.size u2 (c 8).ownBlock) x0 [.int .i64 op, .int .i64 a1, .int .i64 b1, .int .i64 m1, .slice o4 n4 k4, .slice o5 n5 k5, .slice o6 n6 k6]) := aa (fun hz => by rw [hu2]; exact lT 81 _ _ _ _ (fu (aD _ _)) _ _ (BR H1.out.bu.size (fun k hk => (H1.out.own.lt k hk).2) (hx0 hz)));have gT := aa xF;clear h1 h2 hf xF hx0 oL HC H1;obtain ⟨X, hX⟩ : ∃ X, X = aG z2 (lift (bd (rl s en i2) fun l j => (.ok ((⟨x0, l⟩ : kZ 81), j) : R (kZ 81))) n2) := ⟨_, rfl⟩;have HX := aa hX;clear hX;go_upto_region 21 with fail;rw [← hu2, ← gQ];clear hu2 gQ;have bF : Hid (LE w0 wS p q 8 8 80 (fV 81) s en i2 n2 z2 c ps { u2 with drawn := u2.drawn + 1 }) := aa (H2.out.on hK (gU _));clear H2;refine af.pV 14 116 148 (fun j => [.pointer (some ⟨q, 0, none⟩), .pointer (some ⟨q, 0, none⟩), .pointer (some ⟨q, 0, none⟩), .pointer (some ⟨q, 8, none⟩), (c 8), (.agg #[.int .i64 op, .int .i64 a1, .int .i64 b1, .int .i64 m1, .slice o4 n4 k4, .slice o5 n5 k5, .slice o6 n6 k6]), .pointer (some ⟨p, 0, none⟩), undef, undef, undef, undef, undef, undef, undef].getD j undef) [7, 8, 9, 10, 11, 12, 13] (fun w => w.cell? ⟨q, 8, none⟩ = some (c 8) ∧ (w.heap[xb]? = some (.cells #[.int .i64 op, .int .i64 a1, .int .i64 b1, .int .i64 m1, .slice o4 n4 k4, .slice o5 n5 k5, .slice o6 n6 k6] 73 (0, 0)) ∧ (z2 = 0 → oI 81 w (Since wS.heap.size w (c 8).ownBlock) x0 [.int .i64 op, .int .i64 a1, .int .i64 b1, .int .i64 m1, .slice o4 n4 k4, .slice o5 n5 k5, .slice o6 n6 k6]))) (vO (LE w0 wS p q 8 8 80 (fV 81) s en i2 n2 z2 c ps) (UZ w0 wS p q 8 8 80 (fV 81) s en c ps (fun (y : Option Addr × Nat × Nat) => ([.int .i64 op, .int .i64 a1, .int .i64 b1, .int .i64 m1, .slice o4 n4 k4, .slice o5 n5 k5, .slice o6 n6 k6] ++ [.slice y.1 y.2.1 y.2.2])) X (fun (y : Option Addr × Nat × Nat) => .slice y.1 y.2.1 y.2.2)) (UA w0 wS p q 8 8 80 (fV 81) s en c ps (fun (y : Option Addr × Nat × Nat) => ([.int .i64 op, .int .i64 a1, .int .i64 b1, .int .i64 m1, .slice o4 n4 k4, .slice o5 n5 k5, .slice o6 n6 k6] ++ [.slice y.1 y.2.1 y.2.2])) X) (UB w0 wS p q 8 8 80 (fV 81) s en c ps (fun (y : Option Addr × Nat × Nat) => ([.int .i64 op, .int .i64 a1, .int .i64 b1, .int .i64 m1, .slice o4 n4 k4, .slice o5 n5 k5, .slice o6 n6 k6] ++ [.slice y.1 y.2.1 y.2.2])) X) (UC w0 wS p q 8 8 80 (fV 81) s en c ps X) (UD w0 wS p q 8 8 80 (fV 81) s en c ps X) (.pointer (some ⟨q, 0, none⟩)) (.pointer (some ⟨q, 8, none⟩))) (by kernel_rfl) rfl (by kernel_rfl) rfl Au ?hread ?iV ?hend (⟨(bF.out.dm.cell 8 (by decide)), Av qP.out (gU _), fun hz => lT 81 _ _ _ _ (fu (gU _)) _ _ (Ci.out hz)⟩) (fun _ => bF.out)
  case hread =>
    intro j o a w hi hc ho hF hS hd;clear bF;obtain ⟨hS, ll, Lh⟩ := hS;have f0 : a.tmps[0]?.getD undef = .pointer (some ⟨p, 0, none⟩) := af.ax (hF.eval 0 (.inl (by decide)));have f2 : a.tmps[2]?.getD undef = .pointer (some ⟨q, 0, none⟩) := af.ax (hF.eval 2 (.inl (by decide)));have f7 : a.tmps[7]?.getD undef = .pointer (some ⟨xb, 0, none⟩) := af.ax (hF.eval 7 (.inl (by decide)));have jo := ko (j := 0) ll rfl;have jr := ko (j := 1) ll rfl;have ju := ko (j := 2) ll rfl;have sN := ko (j := 3) ll rfl;have sO := ko (j := 4) ll rfl;have sP := ko (j := 5) ll rfl;have sQ := ko (j := 6) ll rfl
    iterate 14 (rcases Nat.lt_succ_iff_lt_or_eq.1 hi with hi | rfl)
    exact absurd hi (Nat.not_lt_zero _)
    all_goals (first
      | exact absurd hc (by decide)
      | (simp only [List.getElem?_toArray, List.getElem?_cons_succ, List.getElem?_cons_zero, Option.some.injEq] at ho
         subst ho;refine af.aR fun KK au => ?_;simp [af.deps, Region.binds] at hd;go_simp;exact au _ _ ⟨rfl, rfl⟩))
  case iV =>
    intro k j o a w hk ho hF hS hU hd;clear bF;have f0 : a.tmps[0]?.getD undef = .pointer (some ⟨p, 0, none⟩) := af.ax (hF.eval 0 (.inl (by decide)));have hkl : k < 7 := (List.getElem?_eq_some_iff.1 hk).1
    iterate 7 (rcases Nat.lt_succ_iff_lt_or_eq.1 hkl with hkl | rfl)
    exact absurd hkl (Nat.not_lt_zero _)
    all_goals (simp only [List.getElem?_cons_succ, List.getElem?_cons_zero, Option.some.injEq] at hk; subst hk; simp only [List.getElem?_toArray, List.getElem?_cons_succ, List.getElem?_cons_zero, Option.some.injEq] at ho; subst ho)
    · have hL : LE w0 wS p q 8 8 80 (fV 81) s en i2 n2 z2 c ps w := hU
      refine af.aR fun KK au => ?_;simp [af.deps, Region.binds] at hd;have aM := aa au;have HL := aa hL;have HC := aa (E9 w0 p s en i2 n2 z2 w hL.dm.ds);clear hU hL au;go_simp;refine HC.out.mono ?_;intro e w2 hr;obtain ⟨l9, ya, yb, yt, i9, n9, z9, rfl, h1, h2, hf, hv⟩ := DR.list hr;exact aM.out _ _ ⟨_, rfl, fun _ => ⟨⟨(HL.out.dm.call h1 h2).cell 8 (by decide), uC hS.2.1 h2 Ch.out, fun hz => lT 81 _ _ _ _ (jQ HL.out.pw h2) _ _ (hS.2.2 hz)⟩, rfl⟩, ⟨(ya, yb, yt), i9, n9, z9, rfl, HL.out.call hK h1 h2, by rw [HX.out]; exact Fits.oM hf (fun y hy h0 => by subst hy; subst h0; rw [bI]; exact ⟨⟨_, _, rfl, lT 81 _ _ _ _ (jQ HL.out.pw h2) _ _ (hS.2.2 (hf.zero rfl)), (hv rfl).keep (kG HL.out.bu.size (fun k hk => (HL.out.own.lt k hk).2))⟩, rfl, rfl, rfl⟩) (fun _ => rfl)⟩⟩
    · have hA : UZ w0 wS p q 8 8 80 (fV 81) s en c ps (fun (y : Option Addr × Nat × Nat) => ([.int .i64 op, .int .i64 a1, .int .i64 b1, .int .i64 m1, .slice o4 n4 k4, .slice o5 n5 k5, .slice o6 n6 k6] ++ [.slice y.1 y.2.1 y.2.2])) X (fun (y : Option Addr × Nat × Nat) => .slice y.1 y.2.1 y.2.2) (a.eval (.tmp 123)) w := hU
      obtain ⟨y, i9, n9, z9, hv, h1, h2⟩ := hA;obtain ⟨ya, yb, yt⟩ := y;have q1 : a.tmps[123]?.getD undef = .slice ya yb yt := af.ax hv;have q5 := hd 5 (by decide) (by decide);simp at q5;refine af.aR fun KK au => ?_;have aM := aa au;have HA := aa (⟨(ya, yb, yt), i9, n9, z9, rfl, h1, h2⟩ : UA w0 wS p q 8 8 80 (fV 81) s en c ps (fun (y : Option Addr × Nat × Nat) => ([.int .i64 op, .int .i64 a1, .int .i64 b1, .int .i64 m1, .slice o4 n4 k4, .slice o5 n5 k5, .slice o6 n6 k6] ++ [.slice y.1 y.2.1 y.2.2])) X (.agg #[.int .i64 op, .int .i64 a1, .int .i64 b1, .int .i64 m1, .slice o4 n4 k4, .slice o5 n5 k5, .slice o6 n6 k6, .slice ya yb yt]) w);clear hU au h1 h2 hd;go_simp;exact aM.out _ _ ⟨_, rfl, fun _ => ⟨hS, rfl⟩, HA.out⟩
    · have hA : UA w0 wS p q 8 8 80 (fV 81) s en c ps (fun (y : Option Addr × Nat × Nat) => ([.int .i64 op, .int .i64 a1, .int .i64 b1, .int .i64 m1, .slice o4 n4 k4, .slice o5 n5 k5, .slice o6 n6 k6] ++ [.slice y.1 y.2.1 y.2.2])) X (a.eval (.tmp 124)) w := hU
      obtain ⟨y, i9, n9, z9, hv, h1, h2⟩ := id hA;obtain ⟨ya, yb, yt⟩ := y;have q1 : a.tmps[124]?.getD undef = .agg #[.int .i64 op, .int .i64 a1, .int .i64 b1, .int .i64 m1, .slice o4 n4 k4, .slice o5 n5 k5, .slice o6 n6 k6, .slice ya yb yt] := af.ax hv;refine af.aR fun KK au => ?_;have aM := aa au;have HA := aa (UB.of hK hA hv);have HD := aa h1;clear hU hA au h1 h2 hd;go_simp;exact aM.out _ _ ⟨_, rfl, fun _ => ⟨⟨((HD.out.dm.on (aD _ _)).cell 8 (by decide)), Av hS.2.1 (aD _ _), fun hz => lT 81 _ _ _ _ (fu (aD _ _)) _ _ (hS.2.2 hz)⟩, rfl⟩, HA.out⟩
    · have hB : UB w0 wS p q 8 8 80 (fV 81) s en c ps (fun (y : Option Addr × Nat × Nat) => ([.int .i64 op, .int .i64 a1, .int .i64 b1, .int .i64 m1, .slice o4 n4 k4, .slice o5 n5 k5, .slice o6 n6 k6] ++ [.slice y.1 y.2.1 y.2.2])) X (a.eval (.tmp 125)) w := hU
      obtain ⟨y, i9, n9, z9, g, hv, hc, h1, h2⟩ := hB;obtain ⟨ya, yb, yt⟩ := y;have q4 : a.eval (.tmp 120) = c 8 := by have := hd 4 (by decide) (by decide); show a.tmps.getD 120 undef = _; rw [Array.getD_eq_getD_getElem?]; exact this
      obtain ⟨i0, hi, hz0, hz1, hz2⟩ := info_parts Fw;refine qL _ _ 30 rfl wS.heap.size 80 i0 _ 8 128 Tryz.underlying30 hi hz0 hz1 hz2 rfl (by decide) _ _ _ q4 h1.own (some ⟨g, 0, none⟩) 1 1 [.int .i64 op, .int .i64 a1, .int .i64 b1, .int .i64 m1, .slice o4 n4 k4, .slice o5 n5 k5, .slice o6 n6 k6, .slice ya yb yt] hv (by intro h; cases h) rfl (fun ad h => by injection h with h; subst h; exact hc) (by intro v hv; simp only [List.mem_cons, List.mem_nil_iff, or_false] at hv; rcases hv with rfl | rfl | rfl | rfl | rfl | rfl | rfl | rfl <;> rfl) (by unfold maxLen; omega) (by omega) h1.bu.size ?_
      intro v9 w9 hown hg aN;have fW : UC w0 wS p q 8 8 80 (fV 81) s en c ps X v9 w9 := UC.of hK (by decide) (y := (ya, yb, yt)) (V := (fun (y : Option Addr × Nat × Nat) => ([.int .i64 op, .int .i64 a1, .int .i64 b1, .int .i64 m1, .slice o4 n4 k4, .slice o5 n5 k5, .slice o6 n6 k6] ++ [.slice y.1 y.2.1 y.2.2]))) rfl h1 h2 hown hg aN;exact ⟨_, rfl, fun _ => ⟨⟨(by obtain ⟨_, _, _, _, hm, _⟩ := fW; exact hm.cell 8 (by decide)), EW hS.2.1 hg Cg.out, fun hz => lT 81 _ _ _ _ (BQ hg) _ _ (hS.2.2 hz)⟩, rfl⟩, fW⟩
    · have hC : UC w0 wS p q 8 8 80 (fV 81) s en c ps X (a.eval (.tmp 126)) w := hU
      have q1 := hd 0 (by decide) (by decide);refine af.aR fun KK au => ?_;have aM := aa au;have HC := aa hC;clear hU hC au hd;simp at q1;go_simp;exact aM.out _ _ ⟨_, rfl, fun _ => ⟨hS, rfl⟩, rfl, HC.out⟩
    · have hC : a.eval (.tmp 127) = .pointer (some ⟨q, 0, none⟩) ∧ UC w0 wS p q 8 8 80 (fV 81) s en c ps X (a.eval (.tmp 126)) w := hU
      have q1 : a.tmps[127]?.getD undef = .pointer (some ⟨q, 0, none⟩) := af.ax hC.1;refine af.aR fun KK au => ?_;have aM := aa au;have HC := aa hC.2;clear hU hC au hd;go_simp;exact aM.out _ _ ⟨_, rfl, fun _ => ⟨hS, rfl⟩, rfl, HC.out⟩
    · have hC : a.eval (.tmp 128) = .pointer (some ⟨q, 8, none⟩) ∧ UC w0 wS p q 8 8 80 (fV 81) s en c ps X (a.eval (.tmp 126)) w := hU
      have q1 : a.tmps[128]?.getD undef = .pointer (some ⟨q, 8, none⟩) := af.ax hC.1;obtain ⟨i9, n9, z9, hsl, hm, _, _⟩ := id hC.2;have fz := hm.ag 8;obtain ⟨v9, aN⟩ : ∃ v9, a.eval (.tmp 126) = v9 := ⟨_, rfl⟩;have q2 : a.tmps[126]?.getD undef = v9 := af.ax aN;rw [aN] at hC hsl;obtain ⟨o9, k9, m9, rfl⟩ := hsl;have HD := aa (UC.put (by decide) hC.2);refine af.aR fun KK au => ?_;have aM := aa au;clear hU hC au hm hd aN;go_simp;exact aM.out a _ ⟨undef, rfl, fun h => absurd h (by decide), HD.out⟩
  case hend =>
    intro a w hF ⟨f9, _, hU⟩;have hD : UD w0 wS p q 8 8 80 (fV 81) s en c ps X (f9 6) w := hU;have HD := aa hD;clear hU hD bF;have kI := aa hF.defers;clear hF;go_wp2;obtain ⟨i9, n9, z9, c9, h1, h2, h3, h4⟩ := HD.out;exact bodyPost_end (results_none rfl _ _ _) kI.out ⟨rfl, i9, n9, z9, c9, h1, h2, h3, by rw [HG.out]; rw [HX.out] at h4; exact Fits.bd fA.out.t (Fits.cL gT.out h4)⟩
theorem Li (w0 wS : World) (p q : Nat) (s : ByteArray) (en i n : Nat) (c : Nat → Value) (ps : List (Pe (Dat 81))) (u : World) (h : LE w0 wS p q 9 8 82 (fZ 81) s en i n 0 c ps u) (hps : ps.length ≤ 4096) : Calls Tryz.prog 34 #[.pointer (some ⟨p, 0, none⟩), .int .i64 11, .pointer (some ⟨q, 0, none⟩)] u (YE w0 wS p q 9 8 82 (fZ 81) s en c ps (lift (lq 81 s en i) n)) := by
  have hK : dH (fZ 81) := (AK 81);have H0 := aa h;clear h;obtain ⟨G, hG⟩ : ∃ G, G = lift (lq 81 s en i) n := ⟨_, rfl⟩;rw [← hG];have HG := aa hG;clear hG;go_enter Tryz.func34, Tryz.ntmps34;have HC := aa (nU w0 p s en i n 0 u H0.out.dm.ds 0 (.inl rfl));go_wp2_with fail;refine HC.out.mono ?_;rintro e u1 ⟨rfl, i1, n1, z1, h1, h2, hf⟩;have H1 := aa (H0.out.call hK h1 h2);have fA := aa hf;clear h1 h2 hf HC H0;have HC := aa (xE w0 p s en i1 n1 z1 u1 H1.out.dm.ds 81);go_wp2_with fail;refine HC.out.mono ?_;rintro e ub ⟨op, a1, b1, m1, o4, n4, k4, o5, n5, k5, o6, n6, k6, i2, n2, z2, rfl, h1, h2, hf⟩;obtain ⟨x0, xF, hx0⟩ := Fits.ex (⟨0, 0, 0, 0, [], none_ 81, none_ 81⟩ : Ins (IL 81)) hf;have oL := H1.out.call hK h1 h2;obtain ⟨xb, gQ⟩ : ∃ xb, xb = ub.heap.size := ⟨_, rfl⟩;obtain ⟨u2, hu2⟩ : ∃ u2, u2 = ub.alloc (.cells #[.int .i64 op, .int .i64 a1, .int .i64 b1, .int .i64 m1, .slice o4 n4 k4, .slice o5 n5 k5, .slice o6 n6 k6] 73) := ⟨_, rfl⟩;have H2 : Hid (LE w0 wS p q 9 8 82 (fZ 81) s en i2 n2 z2 c ps u2) := aa (by rw [hu2]; exact oL.on hK (aD _ _));have qP : Hid (u2.heap[xb]? = some (.cells #[.int .i64 op, .int .i64 a1, .int .i64 b1, .int .i64 m1, .slice o4 n4 k4, .slice o5 n5 k5, .slice o6 n6 k6] 73 (0, 0))) := aa (by rw [hu2, gQ]; exact fI _ _ rfl);have Cg : Hid (∀ k, (c 9).ownBlock = some k → k < xb) := aa (fun k hk => by rw [gQ]; exact (oL.own.lt k hk).2);have Ch : Hid (xb ≠ p) := aa (by have := oL.pw; have := oL.bu.size; omega);have Ci : Hid (z2 = 0 → oI 81 u2 (Since wS.heap.size u2 (c 9).ownBlock) x0 [.int .i64 op, .int .i64 a1, .int .i64 b1, .int .i64 m1, .slice o4 n4 k4, .slice o5 n5 k5, .slice o6 n6 k6]) := aa (fun hz => by rw [hu2]; exact lT 81 _ _ _ _ (fu (aD _ _)) _ _ (BR H1.out.bu.size (fun k hk => (H1.out.own.lt k hk).2) (hx0 hz)));have gT := aa xF;clear h1 h2 hf xF hx0 oL HC H1;obtain ⟨X, hX⟩ : ∃ X, X = aG z2 (lift (bd (lU s en i2) fun l j => (.ok ((⟨x0, l⟩ : Dat 81), j) : R (Dat 81))) n2) := ⟨_, rfl⟩;have HX := aa hX;clear hX;go_upto_region 25 with fail;rw [← hu2, ← gQ];clear hu2 gQ;have bF : Hid (LE w0 wS p q 9 8 82 (fZ 81) s en i2 n2 z2 c ps { u2 with drawn := u2.drawn + 1 }) := aa (H2.out.on hK (gU _));clear H2;refine af.pV 14 135 148 (fun j => [.pointer (some ⟨q, 0, none⟩), .pointer (some ⟨q, 0, none⟩), .pointer (some ⟨q, 0, none⟩), .pointer (some ⟨q, 9, none⟩), (c 9), (.agg #[.int .i64 op, .int .i64 a1, .int .i64 b1, .int .i64 m1, .slice o4 n4 k4, .slice o5 n5 k5, .slice o6 n6 k6]), .pointer (some ⟨p, 0, none⟩), undef, undef, undef, undef, undef, undef, undef].getD j undef) [7, 8, 9, 10, 11, 12, 13] (fun w => w.cell? ⟨q, 9, none⟩ = some (c 9) ∧ (w.heap[xb]? = some (.cells #[.int .i64 op, .int .i64 a1, .int .i64 b1, .int .i64 m1, .slice o4 n4 k4, .slice o5 n5 k5, .slice o6 n6 k6] 73 (0, 0)) ∧ (z2 = 0 → oI 81 w (Since wS.heap.size w (c 9).ownBlock) x0 [.int .i64 op, .int .i64 a1, .int .i64 b1, .int .i64 m1, .slice o4 n4 k4, .slice o5 n5 k5, .slice o6 n6 k6]))) (vO (LE w0 wS p q 9 8 82 (fZ 81) s en i2 n2 z2 c ps) (UZ w0 wS p q 9 8 82 (fZ 81) s en c ps (fun (y : ByteArray) => ([.int .i64 op, .int .i64 a1, .int .i64 b1, .int .i64 m1, .slice o4 n4 k4, .slice o5 n5 k5, .slice o6 n6 k6] ++ [.string y])) X (fun (y : ByteArray) => .string y)) (UA w0 wS p q 9 8 82 (fZ 81) s en c ps (fun (y : ByteArray) => ([.int .i64 op, .int .i64 a1, .int .i64 b1, .int .i64 m1, .slice o4 n4 k4, .slice o5 n5 k5, .slice o6 n6 k6] ++ [.string y])) X) (UB w0 wS p q 9 8 82 (fZ 81) s en c ps (fun (y : ByteArray) => ([.int .i64 op, .int .i64 a1, .int .i64 b1, .int .i64 m1, .slice o4 n4 k4, .slice o5 n5 k5, .slice o6 n6 k6] ++ [.string y])) X) (UC w0 wS p q 9 8 82 (fZ 81) s en c ps X) (UD w0 wS p q 9 8 82 (fZ 81) s en c ps X) (.pointer (some ⟨q, 0, none⟩)) (.pointer (some ⟨q, 9, none⟩))) (by kernel_rfl) rfl (by kernel_rfl) rfl Au ?hread ?iV ?hend (⟨(bF.out.dm.cell 9 (by decide)), Av qP.out (gU _), fun hz => lT 81 _ _ _ _ (fu (gU _)) _ _ (Ci.out hz)⟩) (fun _ => bF.out)
  case hread =>
    intro j o a w hi hc ho hF hS hd;clear bF;obtain ⟨hS, ll, Lh⟩ := hS;have f0 : a.tmps[0]?.getD undef = .pointer (some ⟨p, 0, none⟩) := af.ax (hF.eval 0 (.inl (by decide)));have f2 : a.tmps[2]?.getD undef = .pointer (some ⟨q, 0, none⟩) := af.ax (hF.eval 2 (.inl (by decide)));have f7 : a.tmps[8]?.getD undef = .pointer (some ⟨xb, 0, none⟩) := af.ax (hF.eval 8 (.inl (by decide)));have jo := ko (j := 0) ll rfl;have jr := ko (j := 1) ll rfl;have ju := ko (j := 2) ll rfl;have sN := ko (j := 3) ll rfl;have sO := ko (j := 4) ll rfl;have sP := ko (j := 5) ll rfl;have sQ := ko (j := 6) ll rfl
    iterate 14 (rcases Nat.lt_succ_iff_lt_or_eq.1 hi with hi | rfl)
    exact absurd hi (Nat.not_lt_zero _)
    all_goals (first
      | exact absurd hc (by decide)
      | (simp only [List.getElem?_toArray, List.getElem?_cons_succ, List.getElem?_cons_zero, Option.some.injEq] at ho
         subst ho;refine af.aR fun KK au => ?_;simp [af.deps, Region.binds] at hd;go_simp;exact au _ _ ⟨rfl, rfl⟩))
  case iV =>
    intro k j o a w hk ho hF hS hU hd;clear bF;have f0 : a.tmps[0]?.getD undef = .pointer (some ⟨p, 0, none⟩) := af.ax (hF.eval 0 (.inl (by decide)));have hkl : k < 7 := (List.getElem?_eq_some_iff.1 hk).1
    iterate 7 (rcases Nat.lt_succ_iff_lt_or_eq.1 hkl with hkl | rfl)
    exact absurd hkl (Nat.not_lt_zero _)
    all_goals (simp only [List.getElem?_cons_succ, List.getElem?_cons_zero, Option.some.injEq] at hk; subst hk; simp only [List.getElem?_toArray, List.getElem?_cons_succ, List.getElem?_cons_zero, Option.some.injEq] at ho; subst ho)
    · have hL : LE w0 wS p q 9 8 82 (fZ 81) s en i2 n2 z2 c ps w := hU
      refine af.aR fun KK au => ?_;simp [af.deps, Region.binds] at hd;have aM := aa au;have HL := aa hL;have HC := aa (Cj w0 p s en i2 n2 z2 w hL.dm.ds);clear hU hL au;go_simp;refine HC.out.mono ?_;rintro e w2 ⟨ya, i9, n9, z9, rfl, h1, h2, hf, ht⟩;exact aM.out _ _ ⟨_, rfl, fun _ => ⟨⟨(HL.out.dm.call h1 h2).cell 9 (by decide), uC hS.2.1 h2 Ch.out, fun hz => lT 81 _ _ _ _ (jQ HL.out.pw h2) _ _ (hS.2.2 hz)⟩, rfl⟩, ⟨ya, i9, n9, z9, rfl, HL.out.call hK h1 h2, by rw [HX.out]; exact Fits.oM hf (fun y hy h0 => by subst hy; subst h0; rw [bI]; exact ⟨⟨_, rfl, lT 81 _ _ _ _ (jQ HL.out.pw h2) _ _ (hS.2.2 (hf.zero rfl))⟩, rfl, rfl, rfl⟩) (fun _ => rfl)⟩⟩
    · have hA : UZ w0 wS p q 9 8 82 (fZ 81) s en c ps (fun (y : ByteArray) => ([.int .i64 op, .int .i64 a1, .int .i64 b1, .int .i64 m1, .slice o4 n4 k4, .slice o5 n5 k5, .slice o6 n6 k6] ++ [.string y])) X (fun (y : ByteArray) => .string y) (a.eval (.tmp 142)) w := hU
      obtain ⟨y, i9, n9, z9, hv, h1, h2⟩ := hA;obtain ⟨ya, rfl⟩ : ∃ y9, y9 = y := ⟨_, rfl⟩;have q1 : a.tmps[142]?.getD undef = .string ya := af.ax hv;have q5 := hd 5 (by decide) (by decide);simp at q5;refine af.aR fun KK au => ?_;have aM := aa au;have HA := aa (⟨ya, i9, n9, z9, rfl, h1, h2⟩ : UA w0 wS p q 9 8 82 (fZ 81) s en c ps (fun (y : ByteArray) => ([.int .i64 op, .int .i64 a1, .int .i64 b1, .int .i64 m1, .slice o4 n4 k4, .slice o5 n5 k5, .slice o6 n6 k6] ++ [.string y])) X (.agg #[.int .i64 op, .int .i64 a1, .int .i64 b1, .int .i64 m1, .slice o4 n4 k4, .slice o5 n5 k5, .slice o6 n6 k6, .string ya]) w);clear hU au h1 h2 hd;go_simp;exact aM.out _ _ ⟨_, rfl, fun _ => ⟨hS, rfl⟩, HA.out⟩
    · have hA : UA w0 wS p q 9 8 82 (fZ 81) s en c ps (fun (y : ByteArray) => ([.int .i64 op, .int .i64 a1, .int .i64 b1, .int .i64 m1, .slice o4 n4 k4, .slice o5 n5 k5, .slice o6 n6 k6] ++ [.string y])) X (a.eval (.tmp 143)) w := hU
      obtain ⟨y, i9, n9, z9, hv, h1, h2⟩ := id hA;obtain ⟨ya, rfl⟩ : ∃ y9, y9 = y := ⟨_, rfl⟩;have q1 : a.tmps[143]?.getD undef = .agg #[.int .i64 op, .int .i64 a1, .int .i64 b1, .int .i64 m1, .slice o4 n4 k4, .slice o5 n5 k5, .slice o6 n6 k6, .string ya] := af.ax hv;refine af.aR fun KK au => ?_;have aM := aa au;have HA := aa (UB.of hK hA hv);have HD := aa h1;clear hU hA au h1 h2 hd;go_simp;exact aM.out _ _ ⟨_, rfl, fun _ => ⟨⟨((HD.out.dm.on (aD _ _)).cell 9 (by decide)), Av hS.2.1 (aD _ _), fun hz => lT 81 _ _ _ _ (fu (aD _ _)) _ _ (hS.2.2 hz)⟩, rfl⟩, HA.out⟩
    · have hB : UB w0 wS p q 9 8 82 (fZ 81) s en c ps (fun (y : ByteArray) => ([.int .i64 op, .int .i64 a1, .int .i64 b1, .int .i64 m1, .slice o4 n4 k4, .slice o5 n5 k5, .slice o6 n6 k6] ++ [.string y])) X (a.eval (.tmp 144)) w := hU
      obtain ⟨y, i9, n9, z9, g, hv, hc, h1, h2⟩ := hB;obtain ⟨ya, rfl⟩ : ∃ y9, y9 = y := ⟨_, rfl⟩;have q4 : a.eval (.tmp 139) = c 9 := by have := hd 4 (by decide) (by decide); show a.tmps.getD 139 undef = _; rw [Array.getD_eq_getD_getElem?]; exact this
      obtain ⟨i0, hi, hz0, hz1, hz2⟩ := info_parts Fx;refine qL _ _ 31 rfl wS.heap.size 82 i0 _ 8 120 Tryz.underlying31 hi hz0 hz1 hz2 rfl (by decide) _ _ _ q4 h1.own (some ⟨g, 0, none⟩) 1 1 [.int .i64 op, .int .i64 a1, .int .i64 b1, .int .i64 m1, .slice o4 n4 k4, .slice o5 n5 k5, .slice o6 n6 k6, .string ya] hv (by intro h; cases h) rfl (fun ad h => by injection h with h; subst h; exact hc) (by intro v hv; simp only [List.mem_cons, List.mem_nil_iff, or_false] at hv; rcases hv with rfl | rfl | rfl | rfl | rfl | rfl | rfl | rfl <;> rfl) (by unfold maxLen; omega) (by omega) h1.bu.size ?_
      intro v9 w9 hown hg aN;have fW : UC w0 wS p q 9 8 82 (fZ 81) s en c ps X v9 w9 := UC.of hK (by decide) (y := ya) (V := (fun (y : ByteArray) => ([.int .i64 op, .int .i64 a1, .int .i64 b1, .int .i64 m1, .slice o4 n4 k4, .slice o5 n5 k5, .slice o6 n6 k6] ++ [.string y]))) rfl h1 h2 hown hg aN;exact ⟨_, rfl, fun _ => ⟨⟨(by obtain ⟨_, _, _, _, hm, _⟩ := fW; exact hm.cell 9 (by decide)), EW hS.2.1 hg Cg.out, fun hz => lT 81 _ _ _ _ (BQ hg) _ _ (hS.2.2 hz)⟩, rfl⟩, fW⟩
    · have hC : UC w0 wS p q 9 8 82 (fZ 81) s en c ps X (a.eval (.tmp 145)) w := hU
      have q1 := hd 0 (by decide) (by decide);refine af.aR fun KK au => ?_;have aM := aa au;have HC := aa hC;clear hU hC au hd;simp at q1;go_simp;exact aM.out _ _ ⟨_, rfl, fun _ => ⟨hS, rfl⟩, rfl, HC.out⟩
    · have hC : a.eval (.tmp 146) = .pointer (some ⟨q, 0, none⟩) ∧ UC w0 wS p q 9 8 82 (fZ 81) s en c ps X (a.eval (.tmp 145)) w := hU
      have q1 : a.tmps[146]?.getD undef = .pointer (some ⟨q, 0, none⟩) := af.ax hC.1;refine af.aR fun KK au => ?_;have aM := aa au;have HC := aa hC.2;clear hU hC au hd;go_simp;exact aM.out _ _ ⟨_, rfl, fun _ => ⟨hS, rfl⟩, rfl, HC.out⟩
    · have hC : a.eval (.tmp 147) = .pointer (some ⟨q, 9, none⟩) ∧ UC w0 wS p q 9 8 82 (fZ 81) s en c ps X (a.eval (.tmp 145)) w := hU
      have q1 : a.tmps[147]?.getD undef = .pointer (some ⟨q, 9, none⟩) := af.ax hC.1;obtain ⟨i9, n9, z9, hsl, hm, _, _⟩ := id hC.2;have fz := hm.ag 9;obtain ⟨v9, aN⟩ : ∃ v9, a.eval (.tmp 145) = v9 := ⟨_, rfl⟩;have q2 : a.tmps[145]?.getD undef = v9 := af.ax aN;rw [aN] at hC hsl;obtain ⟨o9, k9, m9, rfl⟩ := hsl;have HD := aa (UC.put (by decide) hC.2);refine af.aR fun KK au => ?_;have aM := aa au;clear hU hC au hm hd aN;go_simp;exact aM.out a _ ⟨undef, rfl, fun h => absurd h (by decide), HD.out⟩
  case hend =>
    intro a w hF ⟨f9, _, hU⟩;have hD : UD w0 wS p q 9 8 82 (fZ 81) s en c ps X (f9 6) w := hU;have HD := aa hD;clear hU hD bF;have kI := aa hF.defers;clear hF;go_wp2;obtain ⟨i9, n9, z9, c9, h1, h2, h3, h4⟩ := HD.out;exact bodyPost_end (results_none rfl _ _ _) kI.out ⟨rfl, i9, n9, z9, c9, h1, h2, h3, by rw [HG.out]; rw [HX.out] at h4; exact Fits.bd fA.out.t (Fits.cL gT.out h4)⟩
namespace ai
def uB (id:Int):Bool:=decide (0<=id/\id<=11)
def AB:Mod 81:=⟨[],[],[],[],[],[],[],[],[],[]⟩
def tF:Sg:=⟨AB,0,0⟩
def pY (st:Sg):Nat:=st.m.funcs.length
def vS (s:ByteArray):Nat->Int->Sg->Nat->Option (R Sg):=lg (bA s) uB Sg.codes pY s s.size
theorem Kz (s:ByteArray):∀(f:Nat) (last:Int) (st:Sg) (i:Nat),s.size-i<f->∃X,vS s f last st i=some X
 | 0,last,st,i,h=>by omega
 | f+1,last,st,i,h=>by
  unfold vS lg;by_cases hi:i<s.size
  ·rw [if_pos hi];have hn:nx s s.size i=.ok (ae.bt s i,i+1):=by unfold nx;rw [if_pos hi]
   have hb:=ae.lQ s i;rw [hn];simp only [];by_cases h1:11<ae.bt s i
   ·rw [if_pos h1];exact ⟨_,rfl⟩
   ·rw [if_neg h1];by_cases h2:ae.bt s i≠0/\¬ last<ae.bt s i
    ·rw [if_pos h2];exact ⟨_,rfl⟩
    ·rw [if_neg h2,if_pos (show uB (ae.bt s i)=true from decide_eq_true ⟨by omega,by omega⟩)];cases hz:dZ (bA s (ae.bt s i)) s st s.size (i+1) with
     | error z=>exact ⟨_,rfl⟩
     | ok v =>
      obtain ⟨st',m⟩:=v
      have:=vD (Nat.le_refl _) hz
      exact Kz s f _ st' m (by omega)
  ·rw [if_neg hi];exact ⟨_,rfl⟩
def lh (s:ByteArray):R Sg:=if 262144<s.size then .error 2 else if pfx s=false then .error 50 else (vS s (s.size+1) 0 tF 8).getD (.error 50)
theorem Cb (s:ByteArray):(if 262144<s.size then some (.error 2) else if pfx s=false then some (.error 50) else lg (bA s) uB Sg.codes pY s s.size (s.size+1) 0 tF 8)=some (lh s):=by
 unfold lh;split
 ·rfl
 split
 ·rfl
 ·obtain ⟨X,hX⟩:=Kz s (s.size+1) 0 tF 8 (by omega);have Ub:lg (bA s) uB Sg.codes pY s s.size (s.size+1) 0 tF 8=some X:=hX;rw [hX,Ub];rfl
theorem sw {α:Type} (n:Nat) (F:EA α) (w:World) (S:Nat->Prop):aI n F w S (.slice none 0 0) []:=⟨by simp,.inl ⟨rfl,none,0,rfl⟩⟩
theorem Cc (p:Nat) (w:World):MM p tF (fun _=>.slice none 0 0) 0 0 w :=
 ⟨rfl,rfl,by omega,0,sw _ _ _ _,sw _ _ _ _,sw _ _ _ _,sw _ _ _ _,sw _ _ _ _,sw _ _ _ _,sw _ _ _ _,sw _ _ _ _,sw _ _ _ _,none,0,0,fun _=>0,fun _=>.slice none 0 0,fun _=>.slice none 0 0,rfl,fun h=>absurd h (by decide),fun j f hj=>by simp [tF,AB] at hj⟩
theorem sx {α:Type} {n:Nat} {F:EA α} {w:World} {S:Nat->Prop} {v:Value} {l:List α} (h:aI n F w S v l):∃o n k,v=.slice o n k:=by
 obtain ⟨o,k,e⟩:=Row.len h;exact ⟨o,_,k,e⟩
theorem Hs (p:Nat) (st:Sg) (c:Nat->Value) (k n:Nat) (w:World) (h:MM p st c k n w):(k=st.codes/\∃o cap,c 2=.slice o (pY st) cap)/\∀j,j<10->∃o n k,c j=.slice o n k:=by
 obtain ⟨h1,h2,h3,g,hG⟩:=h;obtain ⟨o,ob,cap,ty,a,b,e,_⟩:=hG.funcs;refine ⟨⟨h1,o,cap,e⟩,fun j hj=>?_⟩
 match j,hj with
 | 0,_=>exact sx hG.types
 | 1,_=>exact sx hG.imports
 | 2,_=>exact ⟨o,_,cap,e⟩
 | 3,_=>exact sx hG.tables
 | 4,_=>exact sx hG.dU
 | 5,_=>exact sx hG.globals
 | 6,_=>exact sx hG.exports
 | 7,_=>exact sx hG.start
 | 8,_=>exact sx hG.elems
 | 9,_=>exact sx hG.dV
theorem ED {d:Nat} {w:World} {S:Nat->Prop} {g o:Nat} {x:Ins (IL d)} (h:sU w S (ah w S d) g o x):mN w (At w d) g o x :=
 ⟨h.op,h.a,h.b,h.n,let ⟨v,a,b⟩:=h.labels;⟨v,a,b.at⟩,let ⟨v,a,b⟩:=h.body;⟨v,a,ah.at d v _ b⟩,let ⟨v,a,b⟩:=h.els;⟨v,a,ah.at d v _ b⟩⟩
theorem Fe {p:Nat} {st:Sg} {c:Nat->Value} {k n:Nat} {w:World} (h:MM p st c k n w) (hl:st.m.funcs.length<=9223372036854775807):pO w 81 (c 0) (c 1) (c 2) (c 3) (c 4) (c 5) (c 6) (c 7) (c 8) (c 9) st.m:=by
 obtain ⟨h1,h2,h3,g,hG⟩:=h;refine ⟨Row.imp hG.types fun b o x _ ⟨_,⟨v,a,b⟩,u,c,d⟩=>⟨⟨v,a,b.at⟩,u,c,d.at⟩,Row.imp hG.imports fun _ _ _ _ h=>h.2,?_,Row.imp hG.tables fun _ _ _ _ h=>h.2,Row.imp hG.dU fun _ _ _ _ h=>h.2,Row.imp hG.globals fun _ _ _ _ h=>⟨h.2.1,h.2.2.1,ED h.2.2.2⟩,Row.imp hG.exports fun _ _ _ _ h=>h.2,Row.imp hG.start fun _ _ _ _ h=>h.2,Row.imp hG.elems fun _ _ _ _ ⟨_,h,v,a,b⟩=>⟨ED h,v,a,b.at⟩,Row.imp hG.dV fun _ _ _ _ h=>⟨ED h.2.1,h.2.2⟩⟩;obtain ⟨o,ob,cap,ty,a,b,e,h4,h5⟩:=hG.funcs;rw [e];by_cases h0:0<st.m.funcs.length
 ·obtain ⟨rfl,hF,_⟩:=h4 h0;refine ⟨hl,.inr ⟨g,ob,cap,rfl,fun j f hj=>?_⟩⟩;have hjl:j<st.m.funcs.length:=(List.getElem?_eq_some_iff.1 hj).1;obtain ⟨c1,c2,c3⟩:=hF.cell hjl;obtain ⟨e1,e2,e3⟩:=h5 j f hj;rw [e1] at c1;exact ⟨c1,⟨_,c2,e2.at⟩,_,c3,ah.at 81 _ _ e3⟩
 ·have hn:st.m.funcs = []:=List.length_eq_zero_iff.1 (by omega);rw [hn];exact ⟨by simp,.inl ⟨rfl,o,cap,rfl⟩⟩
end ai
theorem Uc {w0:World} {p:Nat} {s:ByteArray} (hU:∀u,Below w0.heap.size w0 u->iW u) {id:Int} (h:uB id=true):kr w0 p s (MM p) (bA s id) id:=by
 have h:=of_decide_eq_true h;have hc:id=0\/id=1\/id=2\/id=3\/id=4\/id=5\/id=6\/id=7\/id=8\/id=9\/id=10\/id=11:=by omega
 rcases hc with rfl|rfl|rfl|rfl|rfl|rfl|rfl|rfl|rfl|rfl|rfl|rfl
 ·exact Ud hU
 ·exact Ue
 ·exact Uf hU
 ·exact Ug
 ·exact Uh
 ·exact Ui
 ·exact Uj
 ·exact Uk hU
 ·exact Ul
 ·exact Um
 ·exact Od
 ·exact Un
theorem Ld (s:ByteArray) (w:World) (hs:s.size<=4611686018427387904) (hU:iW w):Calls Tryz.prog 6 #[.string s] w (qa MM w (lh s)) :=
 G0 (M:=MM) (sec:=bA s) (ok:=uB) (cd:=Sg.codes) (fl:=pY) (st0:=tF) s w hs KA (fun w0 p id hb hid=>Uc (fun u hu=>Cf hU (cG hb hu)) hid) Hs Cc (s.size+1) (lh s) (Cb s)
end Go.Proofs.YtegboefdolfdgaaGreatDoor
