/- Texts that the claim needs. -/
import Derived.Test.YtkdbgopgjbfhbaaGreatDoorQPV40
import Derived.Test.YtkdbgopgjbfhbaaGreatDoorQPV35
import Derived.Test.YtkdbgopgjbfhbaaGreatDoorQPV39
namespace Go.Proofs.YtkdbgopgjbfhbaaGreatDoor
open Go.RowKit Lx Pz bw
set_option linter.unusedVariables false
set_option maxRecDepth 100000
set_option maxHeartbeats 32000000
namespace ah
theorem sN {x L:List Value} {n:Nat} (hx:x.length=n) (hL:L.length=n) (h:∀i,i<n->x.getD i undef=L.getD i undef):x=L:=by
 apply List.ext_getElem (by omega);intro i h1 h2
 have:=h i (by omega)
 rw [List.getD_eq_getElem?_getD,List.getD_eq_getElem?_getD,List.getElem?_eq_getElem h1,List.getElem?_eq_getElem h2] at this;exact this
end ah
theorem NJ : ∀ (m : Nat) (l k : List Value) (vl vk : Value) (w : World), kW m l → iz 0 vl l w → iz 0 vk k w → Calls Tryz.prog 77 #[vl, vk] w fun e w' => e = .returned (.bool (dY false m l k)) ∧ Below w.heap.size w w' := by
  intro m
  induction m with
  | zero =>
    intro l k vl vk w hf h hk;have hl : l = [] := hf;subst hl;obtain ⟨d, h⟩ := h;obtain ⟨d2, hk⟩ := hk;obtain ⟨oR, cR, rfl, _⟩ := bz h;obtain ⟨oS, cS, rfl, _⟩ := bz hk;obtain ⟨R, hR⟩ : ∃ R, R = dY false 0 [] k := ⟨_, rfl⟩;rw [← hR];rw [List.length_nil];clear h hk;cases k with
    | nil =>
      have HS : Hid (true = R) := ae (by rw [hR]; rfl);clear hR;rw [List.length_nil];go_enter Tryz.func77, Tryz.ntmps77;go_wp2_with fail;go_loopw [5] (fun a wr => a = .int .i64 0 ∧ Hid (Below w.heap.size w wr)) (fun _ _ => 0)
      case atStart => exact ⟨rfl, ae (Below.refl _ _)⟩
      case round =>
        obtain ⟨rfl, HB⟩ := hrel;go_wp2;go_ret;exact ⟨aO HS.out, HB.out⟩
    | cons x k =>
      have HS : Hid (false = R) := ae (by rw [hR]; rfl);obtain ⟨n, hn⟩ : ∃ n, n = (x :: k).length := ⟨_, rfl⟩;have hne : ¬ 0 = n := by rw [hn]; simp
      rw [← hn];clear hR hn;go_enter Tryz.func77, Tryz.ntmps77;go_wp2;go_ret;exact ⟨aO HS.out, Below.refl _ _⟩
  | succ m ih =>
    intro l k vl vk w hf h hk;obtain ⟨d, h⟩ := h;obtain ⟨d2, hk⟩ := hk;obtain ⟨oR, cR, rfl, hel⟩ := bz h;obtain ⟨oS, cS, rfl, hes⟩ := bz hk;obtain ⟨R, hR⟩ : ∃ R, R = dY false (m + 1) l k := ⟨_, rfl⟩;rw [← hR];rw [EL] at hR;by_cases hlen : l.length = k.length
    · have st0 : Hid (bD (sm false m) (l.drop 0) (k.drop 0) = R) := ae (by rw [hR]; rfl)
      have HL := ae h.1;have dB := ae hel;have jN := ae hes;have gW := ae hlen;have ym := ae hf;have fT := ae ih;rw [← hlen];clear hR h hk hel hes hlen hf ih;go_enter Tryz.func77, Tryz.ntmps77;go_wp2_with fail;go_loopw [5] (fun a wr => ∃ i : Nat, a = .int .i64 i ∧ i ≤ l.length ∧ Hid (bD (sm false m) (l.drop i) (k.drop i) = R) ∧ Hid (Below w.heap.size w wr)) (fun a _ => match a with | .int _ i => l.length - i.toNat | _ => 0)
      case atStart => exact ⟨0, rfl, Nat.zero_le _, st0, ae (Below.refl _ _)⟩
      case round =>
        obtain ⟨i, rfl, hi, HN, HB2⟩ := hrel;clear st0;by_cases hp : i < l.length
        · obtain ⟨t1, ht1⟩ : ∃ t1, l[i]? = some t1 := ⟨_, List.getElem?_eq_getElem hp⟩
          obtain ⟨t2, ht2⟩ : ∃ t2, k[i]? = some t2 := ⟨_, List.getElem?_eq_getElem (by have := gW.out; omega)⟩;obtain ⟨b, off, dh, hC⟩ := dB.out i t1 ht1;obtain ⟨b2, bL, kK, hD⟩ := jN.out i t2 ht2;subst dh;subst kK;obtain ⟨pk, px, pn, pu, p1, p2, p3, p4, gF, pT⟩ := EM hC;obtain ⟨qk, qx, qn, qu, q1, q2, q3, q4, gG, qT⟩ := EM hD;have y0 := ag HB2.out p1;have y1 := ag HB2.out p2;have y2 := ag HB2.out p3;have y3 := ag HB2.out p4;have x0 := ag HB2.out q1;have x1 := ag HB2.out q2;have x2 := ag HB2.out q3;have x3 := ag HB2.out q4;obtain ⟨dd, k1, x1', n1, es1, u1, h0, hv1, hr1⟩ := pT;obtain ⟨Af, k2, x2', n2, es2, u2, h02, hv2, hr2⟩ := qT;injection hv1 with hv1;injection hv2 with hv2;simp only [Array.mk.injEq, List.cons.injEq, Value.int.injEq, Value.string.injEq, true_and, and_true] at hv1 hv2;obtain ⟨rfl, rfl, rfl, rfl⟩ := hv1;obtain ⟨rfl, rfl, rfl, rfl⟩ := hv2;have hfit := ym.out t1 (List.mem_of_getElem? ht1);have hd := nL (f := sm false m) ht1 ht2;rw [HN.out] at hd;have hfa : kW m es1 := by have := (nM hfit).1; rw [h0] at this; exact this
          have hsm : sm false m t1 t2 = (((pk == qk) && (decide (px = qx) && (pn == qn))) && dY false m es1 es2) := by
            rw [h0, h02];show (((pk == qk) && (decide (px = qx) && (true && ((pn == qn) && true)))) && (dY false m es1 es2 && dY false m [] [])) = _;rw [show dY false m [] [] = true by cases m <;> rfl, Bool.and_true, Bool.and_true, Bool.true_and]
          rw [hsm] at hd;obtain ⟨oA, cA, rfl, _⟩ := bz hr1;obtain ⟨oB, cB, rfl, _⟩ := bz hr2;have fU := ae (fun (u : World) (hu : Below w.heap.size w u) => fT.out es1 es2 (.slice oA es1.length cA) (.slice oB es2.length cB) u hfa ⟨dd, hr1.imp (fun b o t _ ht => dw.but (fun kk _ hl => hu.block kk hl) _ b o t ht)⟩ ⟨Af, hr2.imp (fun b o t _ ht => dw.but (fun kk _ hl => hu.block kk hl) _ b o t ht)⟩);generalize dY false m es1 es2 = A at *;have HD := ae hd;have w1 : decide ((i : Int) < (l.length : Int)) = true := decide_eq_true (by omega);have hw1 := vW hp HL.out;have hik : i < l.length := hp;clear hC hD p1 q1 p2 q2 p3 q3 p4 q4 ht1 ht2 HN hd hsm hfit hfa h0 h02 hr1 hr2;cases q0 : (pk == qk) with
          | false =>
            have r0 : (pk != qk) = true := by rw [bne, q0]; rfl
            go_upto_region 6 with fail;refine ah.rf 51 17 68 [.slice (some ⟨b, off, none⟩) l.length cR, .int .i64 (i : Int), .pointer (some ⟨b, off + i * 4, none⟩), .pointer (some ⟨b, off + i * 4, none⟩), .int .i64 pk, .slice (some ⟨b2, bL, none⟩) l.length cS, .int .i64 (i : Int), .pointer (some ⟨b2, bL + i * 4, none⟩), .pointer (some ⟨b2, bL + i * 4, none⟩), .int .i64 qk, .bool true, .bool true, undef, undef, undef, undef, undef, undef, undef, undef, undef, undef, undef, .bool true, .bool true, undef, undef, undef, undef, undef, undef, undef, undef, undef, undef, undef, .bool true, .bool true, undef, undef, undef, undef, undef, undef, undef, undef, undef, undef, undef, undef, .bool true] (by kernel_rfl) (by kernel_rfl) (by kernel_rfl) rfl ?hstep ?hend
            case hstep =>
              intro j o a u hj ho hF hB hd;have f0 : a.tmps[0]?.getD undef = .slice (some ⟨b, off, none⟩) l.length cR := ah.ak (hF.eval 0 (fun i hi => by show 17 + i ≠ 0; omega));have f1 : a.tmps[1]?.getD undef = .slice (some ⟨b2, bL, none⟩) l.length cS := ah.ak (hF.eval 1 (fun i hi => by show 17 + i ≠ 1; omega));have f5 : a.tmps[5]?.getD undef = .int .i64 (i : Int) := ah.ak (hF.eval 5 (fun i hi => by show 17 + i ≠ 5; omega));have y0 := ag hB y0;have y1 := ag hB y1;have y2 := ag hB y2;have y3 := ag hB y3;have x0 := ag hB x0;have x1 := ag hB x1;have x2 := ag hB x2;have x3 := ag hB x3
              skip
              iterate 51 (rcases Nat.lt_succ_iff_lt_or_eq.1 hj with hj | rfl)
              exact absurd hj (Nat.not_lt_zero _)
              all_goals (
                simp only [List.getElem?_toArray, List.getElem?_cons_succ, List.getElem?_cons_zero, Option.some.injEq] at ho;subst ho
                first
                | exact ah.vX rfl rfl rfl rfl (hd _ (by decide)) rfl
                | (first
                  | refine ah.Does.go rfl (ah.bh fun K hK => ?_)
                  | refine ah.vY rfl rfl rfl rfl (hd _ (by decide)) (ah.bh fun K hK => ?_)
                   simp [ah.deps, Region.binds] at hd;go_simp
                   first
                   | exact hK _ _ ⟨_, rfl, Below.refl _ _, rfl⟩
                   | exact hK _ _ ⟨_, rfl, Below.refl _ _, by simp [ah.oO, *]⟩))
            case hend =>
              intro a u hF hB hG;have fA := ae (ax HB2.out hB);obtain ⟨xl, hxl, rfl, hev⟩ := hF.lit (by simp);obtain rfl := ah.sN hxl (L := [.slice (some ⟨b, off, none⟩) l.length cR, .int .i64 (i : Int), .pointer (some ⟨b, off + i * 4, none⟩), .pointer (some ⟨b, off + i * 4, none⟩), .int .i64 pk, .slice (some ⟨b2, bL, none⟩) l.length cS, .int .i64 (i : Int), .pointer (some ⟨b2, bL + i * 4, none⟩), .pointer (some ⟨b2, bL + i * 4, none⟩), .int .i64 qk, .bool true, .bool true, undef, undef, undef, undef, undef, undef, undef, undef, undef, undef, undef, .bool true, .bool true, undef, undef, undef, undef, undef, undef, undef, undef, undef, undef, undef, .bool true, .bool true, undef, undef, undef, undef, undef, undef, undef, undef, undef, undef, undef, undef, .bool true]) rfl (fun i hi => by rw [← hev i hi]; exact hG i hi);clear hev hxl hF hG hB;simp only [List.take_succ_cons, List.take_zero, List.drop_succ_cons, List.drop_zero, List.cons_append, List.nil_append];have HS : Hid (R = false) := ae (by rw [HD.out, q0]; simp);clear HD fU;go_wp2;go_ret;exact ⟨aO HS.out.symm, fA.out⟩
          | true =>
            have r0 : (pk != qk) = false := by rw [bne, q0]; rfl
            cases q1 : decide (px = qx) with
            | false =>
              have s1 : (px.toList == qx.toList) = false := by rw [str_eq, q1]
              have r1 : (px.toList != qx.toList) = true := by rw [bne, s1]; rfl
              go_upto_region 6 with fail;refine ah.rf 51 17 68 [.slice (some ⟨b, off, none⟩) l.length cR, .int .i64 (i : Int), .pointer (some ⟨b, off + i * 4, none⟩), .pointer (some ⟨b, off + i * 4, none⟩), .int .i64 pk, .slice (some ⟨b2, bL, none⟩) l.length cS, .int .i64 (i : Int), .pointer (some ⟨b2, bL + i * 4, none⟩), .pointer (some ⟨b2, bL + i * 4, none⟩), .int .i64 qk, .bool false, .bool false, .slice (some ⟨b, off, none⟩) l.length cR, .int .i64 (i : Int), .pointer (some ⟨b, off + i * 4, none⟩), .pointer (some ⟨b, off + i * 4 + 1, none⟩), .string px, .slice (some ⟨b2, bL, none⟩) l.length cS, .int .i64 (i : Int), .pointer (some ⟨b2, bL + i * 4, none⟩), .pointer (some ⟨b2, bL + i * 4 + 1, none⟩), .string qx, .bool true, .bool true, .bool true, undef, undef, undef, undef, undef, undef, undef, undef, undef, undef, undef, .bool true, .bool true, undef, undef, undef, undef, undef, undef, undef, undef, undef, undef, undef, undef, .bool true] (by kernel_rfl) (by kernel_rfl) (by kernel_rfl) rfl ?hstep ?hend
              case hstep =>
                intro j o a u hj ho hF hB hd;have f0 : a.tmps[0]?.getD undef = .slice (some ⟨b, off, none⟩) l.length cR := ah.ak (hF.eval 0 (fun i hi => by show 17 + i ≠ 0; omega));have f1 : a.tmps[1]?.getD undef = .slice (some ⟨b2, bL, none⟩) l.length cS := ah.ak (hF.eval 1 (fun i hi => by show 17 + i ≠ 1; omega));have f5 : a.tmps[5]?.getD undef = .int .i64 (i : Int) := ah.ak (hF.eval 5 (fun i hi => by show 17 + i ≠ 5; omega));have y0 := ag hB y0;have y1 := ag hB y1;have y2 := ag hB y2;have y3 := ag hB y3;have x0 := ag hB x0;have x1 := ag hB x1;have x2 := ag hB x2;have x3 := ag hB x3
                skip
                iterate 51 (rcases Nat.lt_succ_iff_lt_or_eq.1 hj with hj | rfl)
                exact absurd hj (Nat.not_lt_zero _)
                all_goals (
                  simp only [List.getElem?_toArray, List.getElem?_cons_succ, List.getElem?_cons_zero, Option.some.injEq] at ho;subst ho
                  first
                  | exact ah.vX rfl rfl rfl rfl (hd _ (by decide)) rfl
                  | (first
                    | refine ah.Does.go rfl (ah.bh fun K hK => ?_)
                    | refine ah.vY rfl rfl rfl rfl (hd _ (by decide)) (ah.bh fun K hK => ?_)
                     simp [ah.deps, Region.binds] at hd;go_simp
                     first
                     | exact hK _ _ ⟨_, rfl, Below.refl _ _, rfl⟩
                     | exact hK _ _ ⟨_, rfl, Below.refl _ _, by simp [ah.oO, *]⟩))
              case hend =>
                intro a u hF hB hG;have fA := ae (ax HB2.out hB);obtain ⟨xl, hxl, rfl, hev⟩ := hF.lit (by simp);obtain rfl := ah.sN hxl (L := [.slice (some ⟨b, off, none⟩) l.length cR, .int .i64 (i : Int), .pointer (some ⟨b, off + i * 4, none⟩), .pointer (some ⟨b, off + i * 4, none⟩), .int .i64 pk, .slice (some ⟨b2, bL, none⟩) l.length cS, .int .i64 (i : Int), .pointer (some ⟨b2, bL + i * 4, none⟩), .pointer (some ⟨b2, bL + i * 4, none⟩), .int .i64 qk, .bool false, .bool false, .slice (some ⟨b, off, none⟩) l.length cR, .int .i64 (i : Int), .pointer (some ⟨b, off + i * 4, none⟩), .pointer (some ⟨b, off + i * 4 + 1, none⟩), .string px, .slice (some ⟨b2, bL, none⟩) l.length cS, .int .i64 (i : Int), .pointer (some ⟨b2, bL + i * 4, none⟩), .pointer (some ⟨b2, bL + i * 4 + 1, none⟩), .string qx, .bool true, .bool true, .bool true, undef, undef, undef, undef, undef, undef, undef, undef, undef, undef, undef, .bool true, .bool true, undef, undef, undef, undef, undef, undef, undef, undef, undef, undef, undef, undef, .bool true]) rfl (fun i hi => by rw [← hev i hi]; exact hG i hi);clear hev hxl hF hG hB;simp only [List.take_succ_cons, List.take_zero, List.drop_succ_cons, List.drop_zero, List.cons_append, List.nil_append];have HS : Hid (R = false) := ae (by rw [HD.out, q0, q1]; simp);clear HD fU;go_wp2;go_ret;exact ⟨aO HS.out.symm, fA.out⟩
            | true =>
              have s1 : (px.toList == qx.toList) = true := by rw [str_eq, q1]
              have r1 : (px.toList != qx.toList) = false := by rw [bne, s1]; rfl
              cases q2 : (pn == qn) with
              | false =>
                have r2 : (pn != qn) = true := by rw [bne, q2]; rfl
                go_upto_region 6 with fail;refine ah.rf 51 17 68 [.slice (some ⟨b, off, none⟩) l.length cR, .int .i64 (i : Int), .pointer (some ⟨b, off + i * 4, none⟩), .pointer (some ⟨b, off + i * 4, none⟩), .int .i64 pk, .slice (some ⟨b2, bL, none⟩) l.length cS, .int .i64 (i : Int), .pointer (some ⟨b2, bL + i * 4, none⟩), .pointer (some ⟨b2, bL + i * 4, none⟩), .int .i64 qk, .bool false, .bool false, .slice (some ⟨b, off, none⟩) l.length cR, .int .i64 (i : Int), .pointer (some ⟨b, off + i * 4, none⟩), .pointer (some ⟨b, off + i * 4 + 1, none⟩), .string px, .slice (some ⟨b2, bL, none⟩) l.length cS, .int .i64 (i : Int), .pointer (some ⟨b2, bL + i * 4, none⟩), .pointer (some ⟨b2, bL + i * 4 + 1, none⟩), .string qx, .bool false, .bool false, .bool false, .slice (some ⟨b, off, none⟩) l.length cR, .int .i64 (i : Int), .pointer (some ⟨b, off + i * 4, none⟩), .pointer (some ⟨b, off + i * 4 + 2, none⟩), .int .i64 pn, .slice (some ⟨b2, bL, none⟩) l.length cS, .int .i64 (i : Int), .pointer (some ⟨b2, bL + i * 4, none⟩), .pointer (some ⟨b2, bL + i * 4 + 2, none⟩), .int .i64 qn, .bool true, .bool true, .bool true, undef, undef, undef, undef, undef, undef, undef, undef, undef, undef, undef, undef, .bool true] (by kernel_rfl) (by kernel_rfl) (by kernel_rfl) rfl ?hstep ?hend
                case hstep =>
                  intro j o a u hj ho hF hB hd;have f0 : a.tmps[0]?.getD undef = .slice (some ⟨b, off, none⟩) l.length cR := ah.ak (hF.eval 0 (fun i hi => by show 17 + i ≠ 0; omega));have f1 : a.tmps[1]?.getD undef = .slice (some ⟨b2, bL, none⟩) l.length cS := ah.ak (hF.eval 1 (fun i hi => by show 17 + i ≠ 1; omega));have f5 : a.tmps[5]?.getD undef = .int .i64 (i : Int) := ah.ak (hF.eval 5 (fun i hi => by show 17 + i ≠ 5; omega));have y0 := ag hB y0;have y1 := ag hB y1;have y2 := ag hB y2;have y3 := ag hB y3;have x0 := ag hB x0;have x1 := ag hB x1;have x2 := ag hB x2;have x3 := ag hB x3
                  skip
                  iterate 51 (rcases Nat.lt_succ_iff_lt_or_eq.1 hj with hj | rfl)
                  exact absurd hj (Nat.not_lt_zero _)
                  all_goals (
                    simp only [List.getElem?_toArray, List.getElem?_cons_succ, List.getElem?_cons_zero, Option.some.injEq] at ho;subst ho
                    first
                    | exact ah.vX rfl rfl rfl rfl (hd _ (by decide)) rfl
                    | (first
                      | refine ah.Does.go rfl (ah.bh fun K hK => ?_)
                      | refine ah.vY rfl rfl rfl rfl (hd _ (by decide)) (ah.bh fun K hK => ?_)
                       simp [ah.deps, Region.binds] at hd;go_simp
                       first
                       | exact hK _ _ ⟨_, rfl, Below.refl _ _, rfl⟩
                       | exact hK _ _ ⟨_, rfl, Below.refl _ _, by simp [ah.oO, *]⟩))
                case hend =>
                  intro a u hF hB hG;have fA := ae (ax HB2.out hB);obtain ⟨xl, hxl, rfl, hev⟩ := hF.lit (by simp);obtain rfl := ah.sN hxl (L := [.slice (some ⟨b, off, none⟩) l.length cR, .int .i64 (i : Int), .pointer (some ⟨b, off + i * 4, none⟩), .pointer (some ⟨b, off + i * 4, none⟩), .int .i64 pk, .slice (some ⟨b2, bL, none⟩) l.length cS, .int .i64 (i : Int), .pointer (some ⟨b2, bL + i * 4, none⟩), .pointer (some ⟨b2, bL + i * 4, none⟩), .int .i64 qk, .bool false, .bool false, .slice (some ⟨b, off, none⟩) l.length cR, .int .i64 (i : Int), .pointer (some ⟨b, off + i * 4, none⟩), .pointer (some ⟨b, off + i * 4 + 1, none⟩), .string px, .slice (some ⟨b2, bL, none⟩) l.length cS, .int .i64 (i : Int), .pointer (some ⟨b2, bL + i * 4, none⟩), .pointer (some ⟨b2, bL + i * 4 + 1, none⟩), .string qx, .bool false, .bool false, .bool false, .slice (some ⟨b, off, none⟩) l.length cR, .int .i64 (i : Int), .pointer (some ⟨b, off + i * 4, none⟩), .pointer (some ⟨b, off + i * 4 + 2, none⟩), .int .i64 pn, .slice (some ⟨b2, bL, none⟩) l.length cS, .int .i64 (i : Int), .pointer (some ⟨b2, bL + i * 4, none⟩), .pointer (some ⟨b2, bL + i * 4 + 2, none⟩), .int .i64 qn, .bool true, .bool true, .bool true, undef, undef, undef, undef, undef, undef, undef, undef, undef, undef, undef, undef, .bool true]) rfl (fun i hi => by rw [← hev i hi]; exact hG i hi);clear hev hxl hF hG hB;simp only [List.take_succ_cons, List.take_zero, List.drop_succ_cons, List.drop_zero, List.cons_append, List.nil_append];have HS : Hid (R = false) := ae (by rw [HD.out, q0, q1, q2]; simp);clear HD fU;go_wp2;go_ret;exact ⟨aO HS.out.symm, fA.out⟩
              | true =>
                have r2 : (pn != qn) = false := by rw [bne, q2]; rfl
                go_upto_region 6 with fail;refine ah.rf 51 17 68 [.slice (some ⟨b, off, none⟩) l.length cR, .int .i64 (i : Int), .pointer (some ⟨b, off + i * 4, none⟩), .pointer (some ⟨b, off + i * 4, none⟩), .int .i64 pk, .slice (some ⟨b2, bL, none⟩) l.length cS, .int .i64 (i : Int), .pointer (some ⟨b2, bL + i * 4, none⟩), .pointer (some ⟨b2, bL + i * 4, none⟩), .int .i64 qk, .bool false, .bool false, .slice (some ⟨b, off, none⟩) l.length cR, .int .i64 (i : Int), .pointer (some ⟨b, off + i * 4, none⟩), .pointer (some ⟨b, off + i * 4 + 1, none⟩), .string px, .slice (some ⟨b2, bL, none⟩) l.length cS, .int .i64 (i : Int), .pointer (some ⟨b2, bL + i * 4, none⟩), .pointer (some ⟨b2, bL + i * 4 + 1, none⟩), .string qx, .bool false, .bool false, .bool false, .slice (some ⟨b, off, none⟩) l.length cR, .int .i64 (i : Int), .pointer (some ⟨b, off + i * 4, none⟩), .pointer (some ⟨b, off + i * 4 + 2, none⟩), .int .i64 pn, .slice (some ⟨b2, bL, none⟩) l.length cS, .int .i64 (i : Int), .pointer (some ⟨b2, bL + i * 4, none⟩), .pointer (some ⟨b2, bL + i * 4 + 2, none⟩), .int .i64 qn, .bool false, .bool false, .bool false, .slice (some ⟨b, off, none⟩) l.length cR, .int .i64 (i : Int), .pointer (some ⟨b, off + i * 4, none⟩), .pointer (some ⟨b, off + i * 4 + 3, none⟩), .slice oA es1.length cA, .slice (some ⟨b2, bL, none⟩) l.length cS, .int .i64 (i : Int), .pointer (some ⟨b2, bL + i * 4, none⟩), .pointer (some ⟨b2, bL + i * 4 + 3, none⟩), .slice oB es2.length cB, .bool A, .bool (!A), .bool (!A)] (by kernel_rfl) (by kernel_rfl) (by kernel_rfl) rfl ?hstep ?hend
                case hstep =>
                  intro j o a u hj ho hF hB hd;have f0 : a.tmps[0]?.getD undef = .slice (some ⟨b, off, none⟩) l.length cR := ah.ak (hF.eval 0 (fun i hi => by show 17 + i ≠ 0; omega));have f1 : a.tmps[1]?.getD undef = .slice (some ⟨b2, bL, none⟩) l.length cS := ah.ak (hF.eval 1 (fun i hi => by show 17 + i ≠ 1; omega));have f5 : a.tmps[5]?.getD undef = .int .i64 (i : Int) := ah.ak (hF.eval 5 (fun i hi => by show 17 + i ≠ 5; omega));have y0 := ag hB y0;have y1 := ag hB y1;have y2 := ag hB y2;have y3 := ag hB y3;have x0 := ag hB x0;have x1 := ag hB x1;have x2 := ag hB x2;have x3 := ag hB x3;have uq := ae (fU.out u (ax HB2.out hB))
                  iterate 51 (rcases Nat.lt_succ_iff_lt_or_eq.1 hj with hj | rfl)
                  exact absurd hj (Nat.not_lt_zero _)
                  all_goals (
                    simp only [List.getElem?_toArray, List.getElem?_cons_succ, List.getElem?_cons_zero, Option.some.injEq] at ho;subst ho
                    first
                    | exact ah.vX rfl rfl rfl rfl (hd _ (by decide)) rfl
                    | (first
                      | refine ah.Does.go rfl (ah.bh fun K hK => ?_)
                      | refine ah.vY rfl rfl rfl rfl (hd _ (by decide)) (ah.bh fun K hK => ?_)
                       simp [ah.deps, Region.binds] at hd;go_simp
                       first
                       | exact hK _ _ ⟨_, rfl, Below.refl _ _, rfl⟩
                       | exact hK _ _ ⟨_, rfl, Below.refl _ _, by simp [ah.oO, *]⟩
                       | (refine Calls.mono (show Calls _ _ _ _ _ from uq.out) ?_; rintro e w' ⟨rfl, hw⟩; exact hK _ _ ⟨_, rfl, hw, rfl⟩)))
                case hend =>
                  intro a u hF hB hG;have fA := ae (ax HB2.out hB);obtain ⟨xl, hxl, rfl, hev⟩ := hF.lit (by simp);obtain rfl := ah.sN hxl (L := [.slice (some ⟨b, off, none⟩) l.length cR, .int .i64 (i : Int), .pointer (some ⟨b, off + i * 4, none⟩), .pointer (some ⟨b, off + i * 4, none⟩), .int .i64 pk, .slice (some ⟨b2, bL, none⟩) l.length cS, .int .i64 (i : Int), .pointer (some ⟨b2, bL + i * 4, none⟩), .pointer (some ⟨b2, bL + i * 4, none⟩), .int .i64 qk, .bool false, .bool false, .slice (some ⟨b, off, none⟩) l.length cR, .int .i64 (i : Int), .pointer (some ⟨b, off + i * 4, none⟩), .pointer (some ⟨b, off + i * 4 + 1, none⟩), .string px, .slice (some ⟨b2, bL, none⟩) l.length cS, .int .i64 (i : Int), .pointer (some ⟨b2, bL + i * 4, none⟩), .pointer (some ⟨b2, bL + i * 4 + 1, none⟩), .string qx, .bool false, .bool false, .bool false, .slice (some ⟨b, off, none⟩) l.length cR, .int .i64 (i : Int), .pointer (some ⟨b, off + i * 4, none⟩), .pointer (some ⟨b, off + i * 4 + 2, none⟩), .int .i64 pn, .slice (some ⟨b2, bL, none⟩) l.length cS, .int .i64 (i : Int), .pointer (some ⟨b2, bL + i * 4, none⟩), .pointer (some ⟨b2, bL + i * 4 + 2, none⟩), .int .i64 qn, .bool false, .bool false, .bool false, .slice (some ⟨b, off, none⟩) l.length cR, .int .i64 (i : Int), .pointer (some ⟨b, off + i * 4, none⟩), .pointer (some ⟨b, off + i * 4 + 3, none⟩), .slice oA es1.length cA, .slice (some ⟨b2, bL, none⟩) l.length cS, .int .i64 (i : Int), .pointer (some ⟨b2, bL + i * 4, none⟩), .pointer (some ⟨b2, bL + i * 4 + 3, none⟩), .slice oB es2.length cB, .bool A, .bool (!A), .bool (!A)]) rfl (fun i hi => by rw [← hev i hi]; exact hG i hi);clear hev hxl hF hG hB;simp only [List.take_succ_cons, List.take_zero, List.drop_succ_cons, List.drop_zero, List.cons_append, List.nil_append];have hD := HD.out;rw [q0, q1, q2, Bool.true_and, Bool.true_and, Bool.true_and] at hD;have fV := ae hD;clear hD HD fU;cases A with
                  | false =>
                    have HS : Hid (R = false) := ae (by rw [fV.out]; rfl);clear fV;go_wp2;go_ret;exact ⟨aO HS.out.symm, fA.out⟩
                  | true =>
                    have HS : Hid (bD (sm false m) (l.drop (i + 1)) (k.drop (i + 1)) = R) := ae (by rw [fV.out]; rfl);clear fV;go_wp2;go_roundw
                    case rel => exact ⟨i + 1, by first | rfl | (congr 1), hik, HS, fA⟩
                    case measure => simp; omega
        · have q1 : decide ((i : Int) < (l.length : Int)) = false := decide_eq_false (by omega)
          have HS : Hid (R = true) := ae (by rw [← HN.out]; exact nN (by omega) (by have := gW.out; omega));clear HN;go_wp2;go_ret;exact ⟨aO HS.out.symm, HB2.out⟩
    · have HS : Hid (R = false) := ae (by rw [hR, mH hlen])
      clear hR h hk hel hes hf ih;go_enter Tryz.func77, Tryz.ntmps77;go_wp2;go_ret;exact ⟨aO HS.out.symm, Below.refl _ _⟩
theorem V9 (m:Nat) (t s v z:Value) (w:World) (hf:EY m t) (h:iw 0 t v w) (h2:iw 0 s z w):Calls Tryz.prog 103 #[v,z] w fun e w'=>e=.returned (.bool (jP m t s))/\Below w.heap.size w w':=by
 obtain ⟨x,ts,u,rfl,rfl,d,hr⟩:=h;obtain ⟨x2,ts2,u2,rfl,rfl,d2,hr2⟩:=h2;obtain ⟨oR,cR,rfl,_⟩:=bz hr;obtain ⟨oS,cS,rfl,_⟩:=bz hr2;obtain ⟨W,hW⟩:∃W,W=(w.alloc (.cells #[.string x,.slice oR ts.length cR] 76)).alloc (.cells #[.string x2,.slice oS ts2.length cS] 76):=⟨_,rfl⟩;have hb1:=bN w (.cells #[.string x,.slice oR ts.length cR] 76);have hb2:=bN (w.alloc (.cells #[.string x,.slice oR ts.length cR] 76)) (.cells #[.string x2,.slice oS ts2.length cS] 76);have HB:Hid (Below w.heap.size w W):=ae (by rw [hW];exact ax hb1 hb2);have HX:Hid (W.heap[w.heap.size]?=some (.cells #[.string x,.slice oR ts.length cR] 76 (0,0))):=ae (by rw [hW,hb2.block _ (by simp)];exact heap_alloc_new w _);have HY:Hid (W.heap[w.heap.size+1]?=some (.cells #[.string x2,.slice oS ts2.length cS] 76 (0,0))):=ae (by rw [hW];exact qc _ _ (by simp));have hf':kW m ts:=hf
 have HA:=ae (N8 (sm false (m-1)) ts ts2 (.slice oR ts.length cR) (.slice oS ts2.length cS) W d d2 (hr.imp (fun b o t _ ht=>dw.but (fun kk _ hl=>HB.out.block kk hl) _ b o t ht)) (hr2.imp (fun b o t _ ht=>dw.but (fun kk _ hl=>HB.out.block kk hl) _ b o t ht)) (fun a b va vb w' hm hm2 ho oU hw'=>by
  cases m with
  | zero=>have hq':ts = []:=hf';rw [hq'] at hm;cases hm
  | succ m=>exact Wd m a b va vb w' (hf' a hm) ho oU))
 have rq:bD (sm false (m-1)) ts ts2=dY false m ts ts2:=Cr _ hf' (fun d0 he a _ b _=>by subst he;rfl);obtain ⟨R,hR⟩:∃R,R=jP m (mr x ts) (mr x2 ts2):=⟨_,rfl⟩;rw [<- hR];have hR':R=(decide (x=x2) && bD (sm false (m-1)) ts ts2):=by rw [hR,rq];rfl
 generalize bD (sm false (m-1)) ts ts2=A at *;clear hR rq hr hr2 hf hf' hb1 hb2;have z0:=af HX.out 0 _ rfl;have z1:=af HX.out 1 _ rfl;have u0:=af HY.out 0 _ rfl;have u1:=af HY.out 1 _ rfl;cases q1:decide (x=x2) with
 | false =>
  have r1:(x.toList == x2.toList)=false:=by rw [str_eq,q1]
  have HS:Hid (false=R):=ae (by rw [hR',q1];rfl);clear hR' HA;go_enter Tryz.func103,Tryz.ntmps103;go_upto_region 1 with fail;rw [<- hW];clear hW;go_wp2;go_ret;exact ⟨aO HS.out,HB.out⟩
 | true =>
  have r1:(x.toList == x2.toList)=true:=by rw [str_eq,q1]
  have HS:Hid (A=R):=ae (by rw [hR',q1];rfl);clear hR';go_enter Tryz.func103,Tryz.ntmps103;go_upto_region 1 with fail;rw [<- hW];clear hW;go_wp2_with fail;refine Calls.mono (show Calls _ _ _ _ _ from HA.out) ?_;rintro e w1 ⟨rfl,hb1⟩;have HB1:=ae (ax HB.out hb1);clear hb1 HA;go_wp2;go_ret;exact ⟨aO HS.out,HB1.out⟩
theorem We (m:Nat) (t s v z:Value) (w:World) (hf:yo m t) (h:iL 0 t v w) (h2:iL 0 s z w):Calls Tryz.prog 50 #[v,z] w fun e w'=>e=.returned (.bool (wC m t s))/\Below w.heap.size w w':=by
 obtain ⟨x,ps,cs,a,u,uz,rfl,rfl,hs,hc⟩:=h;obtain ⟨x2,dK,gI,a2,u2,jv,rfl,rfl,hs2,hc2⟩:=h2;obtain ⟨oP,cP,rfl,_⟩:=bz hs;obtain ⟨oC,cC,rfl,_⟩:=bz hc;obtain ⟨oQ,cQ,rfl,_⟩:=bz hs2;obtain ⟨oD,cD,rfl,_⟩:=bz hc2;rw [List.length_map,List.length_map];rw [List.length_map] at hs hs2;obtain ⟨W,hW⟩:∃W,W=(w.alloc (.cells #[.string x,.slice oP ps.length cP,.slice oC cs.length cC,.int .i64 a] 62)).alloc (.cells #[.string x2,.slice oQ dK.length cQ,.slice oD gI.length cD,.int .i64 a2] 62):=⟨_,rfl⟩;have hb1:=bN w (.cells #[.string x,.slice oP ps.length cP,.slice oC cs.length cC,.int .i64 a] 62);have hb2:=bN (w.alloc (.cells #[.string x,.slice oP ps.length cP,.slice oC cs.length cC,.int .i64 a] 62)) (.cells #[.string x2,.slice oQ dK.length cQ,.slice oD gI.length cD,.int .i64 a2] 62);have HB:Hid (Below w.heap.size w W):=ae (by rw [hW];exact ax hb1 hb2);have HX:Hid (W.heap[w.heap.size]?=some (.cells #[.string x,.slice oP ps.length cP,.slice oC cs.length cC,.int .i64 a] 62 (0,0))):=ae (by rw [hW,hb2.block _ (by simp)];exact heap_alloc_new w _);have HY:Hid (W.heap[w.heap.size+1]?=some (.cells #[.string x2,.slice oQ dK.length cQ,.slice oD gI.length cD,.int .i64 a2] 62 (0,0))):=ae (by rw [hW];exact qc _ _ (by simp));have HS:=ae (Wh ps dK (.slice oP ps.length cP) (.slice oQ dK.length cQ) W (kS.on (C:=0) (B:=0) hs (fun kk _ hl=>HB.out.block kk hl) (Nat.le_refl _)) (kS.on (C:=0) (B:=0) hs2 (fun kk _ hl=>HB.out.block kk hl) (Nat.le_refl _)));have HC:=ae (fun (w1:World) (hw1:Below w.heap.size w w1)=>Wi (jP m) cs gI (.slice oC cs.length cC) (.slice oD gI.length cD) w1 (oK.on (C:=0) (B:=0) hc (fun kk _ hl=>hw1.block kk hl) (Nat.le_refl _)) (oK.on (C:=0) (B:=0) hc2 (fun kk _ hl=>hw1.block kk hl) (Nat.le_refl _)) (fun a b va vb w' hm hm2 ho oU hw'=>V9 m a b va vb w' (hf a hm) ho oU));obtain ⟨R,hR⟩:∃R,R=wC m (lh x ps cs a) (lh x2 dK gI a2):=⟨_,rfl⟩;rw [<- hR]
 have hR':R=(decide (x=x2) && (bD (fun x y=>decide (x=y)) ps dK && bD (jP m) cs gI)):=by
  rw [hR];show (decide (x=x2) && (bD _ ((ps.map Value.string).map qd) ((dK.map Value.string).map qd) && _))=_;rw [EZ,EZ];rfl
 generalize bD (fun x y=>decide (x=y)) ps dK=A at *;generalize bD (jP m) cs gI=C at *;clear hR hs hs2 hc hc2 hf hb1 hb2;have z0:=af HX.out 0 _ rfl;have z1:=af HX.out 1 _ rfl;have u0:=af HY.out 0 _ rfl;have u1:=af HY.out 1 _ rfl;cases q1:decide (x=x2) with
 | false =>
  have r1:(x.toList == x2.toList)=false:=by rw [str_eq,q1]
  have aX:Hid (false=R):=ae (by rw [hR',q1];rfl);clear hR' HS HC;go_enter Tryz.func50,Tryz.ntmps50;go_upto_region 1 with fail;rw [<- hW];clear hW;go_wp2;go_ret;exact ⟨aO aX.out,HB.out⟩
 | true =>
  have r1:(x.toList == x2.toList)=true:=by rw [str_eq,q1]
  rw [q1,Bool.true_and] at hR';have HR:=ae hR';clear hR';go_enter Tryz.func50,Tryz.ntmps50;go_upto_region 1 with fail;rw [<- hW];clear hW;go_wp2_with fail;refine Calls.mono (show Calls _ _ _ _ _ from HS.out) ?_;rintro e w1 ⟨rfl,hb1⟩;have HB1:=ae (ax HB.out hb1);have hx1:=(hb1.block _ (Array.getElem?_eq_some_iff.1 HX.out).1).trans HX.out;have hy1:=(hb1.block _ (Array.getElem?_eq_some_iff.1 HY.out).1).trans HY.out;have z2:=af hx1 2 _ rfl;have u2:=af hy1 2 _ rfl;have I5:=ae (HC.out w1 HB1.out);clear hb1 HS HC hx1 hy1 HX HY HB z0 z1 u0 u1;cases A with
  | false =>
   have aX:Hid (false=R):=ae (by rw [HR.out];rfl);clear HR I5;go_wp2;go_ret;exact ⟨aO aX.out,HB1.out⟩
  | true =>
   have aX:Hid (C=R):=ae (by rw [HR.out];rfl);clear HR;go_wp2_with fail;refine Calls.mono (show Calls _ _ _ _ _ from I5.out) ?_;rintro e w2 ⟨rfl,hb2⟩;have HB2:=ae (ax HB1.out hb2);clear hb2 I5;go_wp2;go_ret;exact ⟨aO aX.out,HB2.out⟩
theorem N9 (m dt:Nat) (ds ks:List Value) (t s v z:Value) (w:World) (hf:fit m t) (rA:∀c ∈ ds,yo dt c) (h:fw 0 (ds,t) v w) (h2:fw 0 (ks,s) z w):Calls Tryz.prog 19 #[v,z] w fun e w'=>e=.returned (.bool (wD m dt ds ks t s))/\Below w.heap.size w w':=by
 obtain ⟨uD,k,x,y,n,u,uz,a,rfl,hD,hM⟩:=h;obtain ⟨jY,k2,x2,y2,n2,u2,jv,a2,rfl,hD2,hM2⟩:=h2;obtain ⟨W,hW⟩:∃W,W=(w.alloc (.cells #[uD,.int .i64 k,.string x,.string y,.int .i64 n,u,uz,.int .i64 a] 29)).alloc (.cells #[jY,.int .i64 k2,.string x2,.string y2,.int .i64 n2,u2,jv,.int .i64 a2] 29):=⟨_,rfl⟩;have hb1:=bN w (.cells #[uD,.int .i64 k,.string x,.string y,.int .i64 n,u,uz,.int .i64 a] 29);have hb2:=bN (w.alloc (.cells #[uD,.int .i64 k,.string x,.string y,.int .i64 n,u,uz,.int .i64 a] 29)) (.cells #[jY,.int .i64 k2,.string x2,.string y2,.int .i64 n2,u2,jv,.int .i64 a2] 29);have HB:Hid (Below w.heap.size w W):=ae (by rw [hW];exact ax hb1 hb2);have HX:Hid (W.heap[w.heap.size]?=some (.cells #[uD,.int .i64 k,.string x,.string y,.int .i64 n,u,uz,.int .i64 a] 29 (0,0))):=ae (by rw [hW,hb2.block _ (by simp)];exact heap_alloc_new w _);have HY:Hid (W.heap[w.heap.size+1]?=some (.cells #[jY,.int .i64 k2,.string x2,.string y2,.int .i64 n2,u2,jv,.int .i64 a2] 29 (0,0))):=ae (by rw [hW];exact qc _ _ (by simp));have HC:=ae (Wj (wC dt) ds ks uD jY W (iN.on (C:=0) (B:=0) hD (fun kk _ hl=>HB.out.block kk hl) (Nat.le_refl _)) (iN.on (C:=0) (B:=0) hD2 (fun kk _ hl=>HB.out.block kk hl) (Nat.le_refl _)) (fun a b va vb w' hm hm2 ho oU hw'=>We dt a b va vb w' (rA a hm) ho oU));have HE:=ae (fun (w1:World) (hw1:Below w.heap.size w w1)=>Wl m t s _ _ w1 hf (hM.rC (fun kk _ hl=>hw1.block kk hl)) (hM2.rC (fun kk _ hl=>hw1.block kk hl)));obtain ⟨R,hR⟩:∃R,R=wD m dt ds ks t s:=⟨_,rfl⟩;rw [<- hR];unfold wD at hR;generalize bD (wC dt) ds ks=A at *;generalize sm false m t s=E at *;have HR:=ae hR;clear hR hD hD2 hM hM2 hf rA hb1 hb2;have z0:=af HX.out 0 _ rfl;have u0:=af HY.out 0 _ rfl;go_enter Tryz.func19,Tryz.ntmps19;go_upto_region 1 with fail;rw [<- hW];clear hW;go_wp2_with fail;refine Calls.mono (show Calls _ _ _ _ _ from HC.out) ?_;rintro e w1 ⟨rfl,hb1⟩;have HB1:=ae (ax HB.out hb1);have hx1:=(hb1.block _ (Array.getElem?_eq_some_iff.1 HX.out).1).trans HX.out;have hy1:=(hb1.block _ (Array.getElem?_eq_some_iff.1 HY.out).1).trans HY.out;have z1:=af hx1 1 _ rfl;have z2:=af hx1 2 _ rfl;have z3:=af hx1 3 _ rfl;have z4:=af hx1 4 _ rfl;have z5:=af hx1 5 _ rfl;have z6:=af hx1 6 _ rfl;have z7:=af hx1 7 _ rfl;have u1:=af hy1 1 _ rfl;have u2':=af hy1 2 _ rfl;have u3:=af hy1 3 _ rfl;have u4:=af hy1 4 _ rfl;have u5:=af hy1 5 _ rfl;have u6:=af hy1 6 _ rfl;have u7:=af hy1 7 _ rfl;have rD:=ae (HE.out w1 HB1.out);clear hb1 HC HE hx1 hy1 HX HY HB z0 u0;cases A with
 | false =>
  have aX:Hid (false=R):=ae (by rw [HR.out];rfl);clear HR rD;go_wp2;go_ret;exact ⟨aO aX.out,HB1.out⟩
 | true =>
  have aX:Hid (E=R):=ae (by rw [HR.out];rfl);clear HR;go_wp2_with fail;refine Calls.mono (show Calls _ _ _ _ _ from rD.out) ?_;rintro e w2 ⟨rfl,hb2⟩;have HB2:=ae (ax HB1.out hb2);clear hb2 rD;go_wp2;go_ret;exact ⟨aO aX.out,HB2.out⟩
namespace Pz
theorem Oa (pl:Bool) (a:Value):uA pl a a=true:=by unfold uA;simp
theorem Cs {α:Type} {f:α->α->Bool}:∀ {l:List α},(∀a ∈ l,f a a=true)->bD f l l=true
 | [],_=>rfl
 | a :: l,h=>by unfold bD;rw [h a (List.Mem.head _),Cs (fun b hb=>h b (List.Mem.tail _ hb))];rfl
theorem Ct (pl:Bool):∀(d:Nat) (l:List Value),kW d l->dY pl d l l=true
 | 0,l,h=>by have h':l = []:=h;subst h';rfl
 | d+1,l,h=>by
  refine Cs fun a ha=>?_;obtain ⟨h1,h2⟩:=nM (h a ha);rw [Oa,Ct pl d _ h1,Ct pl d _ h2];rfl
theorem Wm {pl:Bool} {d:Nat} {t:Value} (h:fit d t):sm pl d t t=true:=by
 obtain ⟨h1,h2⟩:=nM h;unfold sm;rw [Oa,Ct pl d _ h1,Ct pl d _ h2];rfl
theorem Wn {d dt:Nat} {ds:List Value} {t:Value} (hf:fit d t) (hd:∀c ∈ ds,yo dt c):wD d dt ds ds t t=true:=by
 unfold wD;rw [Wm hf,Cs (fun c hc=>?_)];rfl;unfold wC;rw [Cs (fun x _=>?_),Cs (fun x hx=>?_)];simp
 ·unfold jP;rw [Ct false dt _ (hd c hc x hx)];simp
 ·simp
end Pz
end Go.Proofs.YtkdbgopgjbfhbaaGreatDoor
