/- Tokens: LexBlanks: printed by gen_b11.py. -/
import Derived.Test.YtagoajoaojakhaaDoorB11a
namespace Go.Proofs.YtagoajoaojakhaaDoor
open Go.RowKit Lx
set_option linter.unusedVariables false
set_option maxRecDepth 100000 in
set_option maxHeartbeats 8000000 in
theorem blanksG (s b : ByteArray) (w : World) (hWL : WL w) (hs : s.size ≤ 1500) (hb3 : b.size ≤ 3) :
    Calls Tryd.prog 5 #[.string s, .string b] w fun e w' => e = .returned (.bool true) ∧ Below w.heap.size w w' := by
  have q1 : decide ((s.size : Int) > 1500) = false := decide_eq_false (by omega)
  have q2 : decide ((b.size : Int) > 3) = false := decide_eq_false (by omega)
  have HWL := hideR hWL
  have HS := hideR hs
  have HB3 := hideR hb3
  clear hWL hs hb3
  go_enter Tryd.func5, Tryd.ntmps5
  go_wp2_with fail
  go_loop [5] (fun a => ∃ k : Nat, a = .int .i64 k ∧ k ≤ b.size ∧ Hid (∀ a, a < k → bl (bt b a) = true)) (fun a => match a with | .int _ k => b.size - k.toNat | _ => 0)
  case atStart => exact ⟨0, rfl, Nat.zero_le _, hideR fun a h => absurd h (Nat.not_lt_zero _)⟩
  case round =>
    obtain ⟨k, rfl, hk, HA⟩ := hrel
    by_cases hp : k < b.size
    · have hx := fun (w : World) => idx_bt b k hp w (P := Tryd.prog) 9 Tryd.underlying9
      have hbb : bl (bt b k) = (bt b k == 9 || bt b k == 10 || bt b k == 13 || bt b k == 32) := rfl
      obtain ⟨q3, hw1⟩ := bA hp HB3.out
      have HW := hideR (lWakes w HWL.out)
      cases h1 : bl (bt b k) with
      | true =>
        have HA2 : Hid (∀ a, a < k + 1 → bl (bt b a) = true) := hideR fun a ha => by
          rcases Nat.lt_or_ge a k with h | h
          · exact HA.out a h
          · obtain rfl : a = k := Nat.le_antisymm (Nat.le_of_lt_succ ha) h
            exact h1
        rw [h1] at hbb
        generalize bt b k = c at *
        clear h1 HA HW
        cases z1 : c == 9 with
        | true =>
          have y1 := bne_no z1
          clear hbb
          go_wp2
          go_round
          case rel => exact ⟨k + 1, by first | rfl | (congr 1), hp, HA2⟩
          case measure => simp only [hw1]; clear hw1 q3; simp; omega
        | false =>
          have y1 := bne_of z1
          cases z2 : c == 10 with
          | true =>
            have y2 := bne_no z2
            clear hbb
            go_wp2
            go_round
            case rel => exact ⟨k + 1, by first | rfl | (congr 1), hp, HA2⟩
            case measure => simp only [hw1]; clear hw1 q3; simp; omega
          | false =>
            have y2 := bne_of z2
            cases z3 : c == 13 with
            | true =>
              have y3 := bne_no z3
              clear hbb
              go_wp2
              go_round
              case rel => exact ⟨k + 1, by first | rfl | (congr 1), hp, HA2⟩
              case measure => simp only [hw1]; clear hw1 q3; simp; omega
            | false =>
              have y3 := bne_of z3
              have z4 : (c == 32) = true := by rw [z1, z2, z3] at hbb; exact hbb.symm
              have y4 := bne_no z4
              clear hbb
              go_wp2
              go_round
              case rel => exact ⟨k + 1, by first | rfl | (congr 1), hp, HA2⟩
              case measure => simp only [hw1]; clear hw1 q3; simp; omega
      | false =>
        rw [h1] at hbb
        have y1 := bne_of (show (bt b k == 9) = false by cases h : (bt b k == 9); rfl; rw [h] at hbb; simp at hbb)
        have y2 := bne_of (show (bt b k == 10) = false by cases h : (bt b k == 10); rfl; rw [h] at hbb; simp at hbb)
        have y3 := bne_of (show (bt b k == 13) = false by cases h : (bt b k == 13); rfl; rw [h] at hbb; simp at hbb)
        have y4 := bne_of (show (bt b k == 32) = false by cases h : (bt b k == 32); rfl; rw [h] at hbb; simp at hbb)
        generalize bt b k = c at *
        clear h1 hbb HA
        go_wp2_with fail
        refine HW.out.mono ?_
        rintro e u ⟨rfl, hb⟩
        have HB := hideR hb
        clear hb
        go_wp2
        go_ret
        exact ⟨rfl, HB.out⟩
    · have q3 := aK b.size k hp
      have HA : Hid (∀ a, a < b.size → bl (bt b a) = true) := hideR fun a ha => HA.out a (by omega)
      have H1 := hideR (pLexO s w HWL.out)
      have HWk := fun (u : World) (hb : Below w.heap.size w u) => hideR (lWakes u (HWL.out.on hb))
      by_cases he : (lx s).2.2 = 0
      · have hup : Up s.size (sk s false 0) (lx s).1 := by
          have e : lx s = lxF s s.size (sk s false 0) [] := if_neg (by have := HS.out; omega)
          refine lx_up _ _ ?_
          rw [← e]
          exact ok_eq (by have := HS.out; omega) he
        have HUp := hideR hup
        have HJ := hideR (fun hz => lx_spr (s := s) (b := b) HA.out (ok_eq (by have := HS.out; omega) he) hz)
        have HL4 := hideR (lx_len s)
        clear hup
        generalize lx s = R at *
        obtain ⟨L, pl, er⟩ := R
        simp only at he HUp HJ HL4
        subst he
        clear HA
        go_wp2_with fail
        refine H1.out.mono ?_
        rintro e u1 ⟨v1, rfl, hT1, hb1⟩
        have HB1 := hideR hb1
        have HT1 := hideR (tkAt_own hT1)
        obtain ⟨o1, c1, hv1⟩ := own_slice hT1
        have hv1 : v1 = .slice o1 L.length c1 := hv1
        subst hv1
        clear hT1 hb1 H1
        go_wp2_with fail
        go_loopw [9, 10, 11] (fun tv lv x w' => ∃ (T : ByteArray) (la j : Nat), tv = .string T ∧ lv = .int .i64 la ∧ x = .int .i64 j ∧ j ≤ L.length ∧ Hid (T = (gth s b (L.take j)).1 ∧ la = (gth s b (L.take j)).2.1) ∧ Hid (Below w.heap.size w w') ∧ Hid (TkAt w' (.slice o1 L.length c1) L)) (fun _ _ x _ => match x with | .int _ j => L.length - j.toNat | _ => 0)
        case atStart => exact ⟨b, 0, 0, rfl, rfl, rfl, Nat.zero_le _, hideR ⟨rfl, rfl⟩, HB1, HT1⟩
        case round =>
          clear HB1 HT1
          obtain ⟨T, la, j, rfl, rfl, rfl, hj, HG, HB, HT⟩ := hrel
          by_cases hjl : j < L.length
          · obtain ⟨q4, hw1⟩ := bB hjl HL4.out
            obtain ⟨tt, ht⟩ : ∃ t, L[j]? = some t := ⟨_, List.getElem?_eq_getElem hjl⟩
            obtain ⟨p, hpa, _, hps⟩ := HUp.out.at_ j tt ht
            obtain ⟨g, cg, hvg, hcells⟩ := HT.out.some (by omega)
            injection hvg with ho1 _ hcg
            subst ho1
            have y3 : wr.cell? ⟨g, j * 4 + 3, none⟩ = some (.int .i64 (p : Int)) := by rw [← hpa]; exact hcells j tt ht 3 _ rfl
            have hz1 : g < wr.heap.size := World.block_lt_of_cell? _ _ y3
            have HTS := hideR (take_snoc ht)
            have HTZ := hideR (gth_sz (s := s) (b := b) HS.out HB3.out (L := L.take j) (by rw [List.length_take]; have := HL4.out; omega))
            rcases Nat.eq_zero_or_pos j with hj0 | hj0
            · have hla : la = 0 := by have := HG.out.2; rw [hj0, List.take_zero] at this; exact this
              obtain ⟨q5, q6⟩ := bC (p := p) (la := la) (z := s.size) (by omega) hps
              have q7 : ¬ 0 < j := by omega
              have HN : Hid (la ≤ p ∧ p < s.size ∧ j = 0 ∧ True) := hideR ⟨by omega, hps, hj0, trivial⟩
              have pS : 0 ≤ (p : Int) ∧ (p : Int) ≤ (s.size : Int) := by omega
              obtain ⟨X, hX⟩ : ∃ X, s.extract 0 p = X := ⟨_, rfl⟩
              have hXz : X.size ≤ 1600 := by rw [← hX, ByteArray.size_extract]; have := HS.out; omega
              have hc1 := bF (a := T.size) (b := X.size) (by rw [HG.out.1]; exact HTZ.out) hXz
              have HG2 : Hid (T ++ X = (gth s b (L.take (j + 1))).1 ∧ p = (gth s b (L.take (j + 1))).2.1) := hideR (by
                have hz : (gth s b (L.take j)).2.2 = true := by rw [hj0, List.take_zero]; rfl
                have hpt : tt.a.toNat = p := by rw [hpa]; rfl
                rw [HTS.out, gth_snoc]; unfold stp; rw [if_pos hz, hpt, HG.out.1, hX]; exact ⟨rfl, rfl⟩)
              clear hcells hcg ht hpa hla hXz HTS HTZ HG hj0 hps
              go_upto_region 15 with fail
              refine Reg.wp_tab 35 88 176 [.slice (some ⟨g, 0, none⟩) L.length c1, .int .i64 (j : Int), .pointer (some ⟨g, j * 4, none⟩), .pointer (some ⟨g, j * 4 + 3, none⟩), .int .i64 (p : Int), .int .i64 (la : Int), .bool false, .bool false, .slice (some ⟨g, 0, none⟩) L.length c1, .int .i64 (j : Int), .pointer (some ⟨g, j * 4, none⟩), .pointer (some ⟨g, j * 4 + 3, none⟩), .int .i64 (p : Int), .string s, .int .i64 (s.size : Int), .bool false, .bool false, .bool false, .int .i64 (j : Int), .bool false, .bool false, undef, undef, undef, undef, undef, undef, undef, undef, undef, undef, undef, undef, .bool false, .bool false] (by kernel_rfl) (by kernel_rfl) (by kernel_rfl) rfl ?hstep0 ?hend0
              case hstep0 =>
                intro i o a u hi ho hF hB hd
                have z3 := Rep.cell_on hB y3
                have f0 : a.tmps[0]?.getD undef = .string s := Reg.ev_get (hF.eval 0 (fun i hi => by show 88 + i ≠ 0; omega))
                have f6 : a.tmps[6]?.getD undef = .slice (some ⟨g, 0, none⟩) L.length c1 := Reg.ev_get (hF.eval 6 (fun i hi => by show 88 + i ≠ 6; omega))
                have f10 : a.tmps[10]?.getD undef = .int .i64 (la : Int) := Reg.ev_get (hF.eval 10 (fun i hi => by show 88 + i ≠ 10; omega))
                have f11 : a.tmps[11]?.getD undef = .int .i64 (j : Int) := Reg.ev_get (hF.eval 11 (fun i hi => by show 88 + i ≠ 11; omega))
                iterate 35 (rcases Nat.lt_succ_iff_lt_or_eq.1 hi with hi | rfl)
                exact absurd hi (Nat.not_lt_zero _)
                all_goals (
                  simp only [List.getElem?_toArray, List.getElem?_cons_succ, List.getElem?_cons_zero, Option.some.injEq] at ho
                  subst ho
                  first
                  | exact Reg.does_tab0 rfl rfl rfl rfl (hd _ (by decide)) rfl
                  | (first
                    | refine Reg.Does.go rfl (Reg.step_k fun K hK => ?_)
                    | refine Reg.does_tab rfl rfl rfl rfl (hd _ (by decide)) (Reg.step_k fun K hK => ?_)
                     simp [Reg.deps, Region.binds] at hd
                     go_simp
                     first | exact hK _ _ ⟨_, rfl, Below.refl _ _, rfl⟩ | (obtain ⟨n1, n2, n3, n4⟩ := HN.out; exact hK _ _ ⟨_, rfl, Below.refl _ _, by simp [Reg.Tab, go_sem, *]⟩)))
              case hend0 =>
                intro a w2 hF hB hG
                have HW2 := hideR (HB.out.trans (hB.mono HB.out.size))
                have HT2 := hideR (HT.out.on hB)
                have y3 := Rep.cell_on hB y3
                obtain ⟨xl, hxl, rfl, hev⟩ := hF.lit (by simp)
                obtain rfl := Reg.lit_tab hxl (L := [.slice (some ⟨g, 0, none⟩) L.length c1, .int .i64 (j : Int), .pointer (some ⟨g, j * 4, none⟩), .pointer (some ⟨g, j * 4 + 3, none⟩), .int .i64 (p : Int), .int .i64 (la : Int), .bool false, .bool false, .slice (some ⟨g, 0, none⟩) L.length c1, .int .i64 (j : Int), .pointer (some ⟨g, j * 4, none⟩), .pointer (some ⟨g, j * 4 + 3, none⟩), .int .i64 (p : Int), .string s, .int .i64 (s.size : Int), .bool false, .bool false, .bool false, .int .i64 (j : Int), .bool false, .bool false, undef, undef, undef, undef, undef, undef, undef, undef, undef, undef, undef, undef, .bool false, .bool false]) rfl (fun i hi => by rw [← hev i hi]; exact hG i hi)
                clear hev hxl hF hG hB HB HT
                simp only [List.take_succ_cons, List.take_zero, List.drop_succ_cons, List.drop_zero, List.cons_append, List.nil_append]
                go_wp2
                go_roundw
                case rel => exact ⟨_, p, j + 1, rfl, rfl, by first | rfl | (congr 1), hjl, HG2, HW2, HT2⟩
                case measure => clear hw1 q4 q5 q6; simp; omega
            · obtain ⟨i0, hji, q7a, hw2⟩ := bE hj0 (by have := HL4.out; omega)
              obtain ⟨uu, hu⟩ : ∃ t, L[i0]? = some t := ⟨_, List.getElem?_eq_getElem (by omega)⟩
              obtain ⟨q, hqa, _, hqs⟩ := HUp.out.at_ i0 uu hu
              have htw : uu.a < tt.a := HUp.out.two i0 uu tt hu (by rw [← hji]; exact ht)
              have hgl := gth_last (s := s) (b := b) hu
              have hla : la = q := by rw [HG.out.2, hji, hgl.1, hqa]; rfl
              subst hla
              rw [hqa, hpa] at htw
              have q8 := bD htw
              rw [← hji] at hw2
              have q7 : 0 < j := hj0
              have HN : Hid (la ≤ p ∧ p < s.size ∧ 0 < j ∧ IntKind.i64.wrap ((j : Int) - 1) = (i0 : Int)) := hideR ⟨by omega, hps, hj0, by rw [IntKind.wrap_i64]; unfold wrap64 at hw2; exact hw2⟩
              have y4 : wr.cell? ⟨g, i0 * 4 + 3, none⟩ = some (.int .i64 (la : Int)) := by rw [← hqa]; exact hcells i0 uu hu 3 _ rfl
              obtain ⟨q5, q6⟩ := bC (p := p) (la := la) (z := s.size) (by omega) hps
              have pS : 0 ≤ (p : Int) ∧ (p : Int) ≤ (s.size : Int) := by omega
              have pL : (la : Int) ≤ (p : Int) := by omega
              have hin : i0 < L.length := by omega
              obtain ⟨X, hX⟩ : ∃ X, s.extract la p = X := ⟨_, rfl⟩
              have hXz : X.size ≤ 1500 := by rw [← hX, ByteArray.size_extract]; have := HS.out; omega
              have hc1 := bF (a := T.size) (b := X.size + b.size) (by rw [HG.out.1]; exact HTZ.out) (by have := HB3.out; omega)
              have hc0 : ¬ 9223372036854775807 < X.size + b.size := by have := HB3.out; omega
              have HG2 : Hid (T ++ (X ++ b) = (gth s b (L.take (j + 1))).1 ∧ p = (gth s b (L.take (j + 1))).2.1) := hideR (by
                have hz : (gth s b (L.take j)).2.2 ≠ true := by rw [hji, hgl.2]; simp
                have hpt : tt.a.toNat = p := by rw [hpa]; rfl
                rw [HTS.out, gth_snoc]; unfold stp; rw [if_neg hz, hpt, HG.out.1, ← HG.out.2, hX]; exact ⟨rfl, rfl⟩)
              clear hcells hcg ht hpa hXz HTS HTZ HG hj0 hps hu hqa hqs htw hgl hji
              go_upto_region 15 with fail
              refine Reg.wp_tab 35 88 176 [.slice (some ⟨g, 0, none⟩) L.length c1, .int .i64 (j : Int), .pointer (some ⟨g, j * 4, none⟩), .pointer (some ⟨g, j * 4 + 3, none⟩), .int .i64 (p : Int), .int .i64 (la : Int), .bool false, .bool false, .slice (some ⟨g, 0, none⟩) L.length c1, .int .i64 (j : Int), .pointer (some ⟨g, j * 4, none⟩), .pointer (some ⟨g, j * 4 + 3, none⟩), .int .i64 (p : Int), .string s, .int .i64 (s.size : Int), .bool false, .bool false, .bool false, .int .i64 (j : Int), .bool true, .bool true, .slice (some ⟨g, 0, none⟩) L.length c1, .int .i64 (j : Int), .pointer (some ⟨g, j * 4, none⟩), .pointer (some ⟨g, j * 4 + 3, none⟩), .int .i64 (p : Int), .slice (some ⟨g, 0, none⟩) L.length c1, .int .i64 (j : Int), .int .i64 (i0 : Int), .pointer (some ⟨g, i0 * 4, none⟩), .pointer (some ⟨g, i0 * 4 + 3, none⟩), .int .i64 (la : Int), .bool false, .bool false, .bool false] (by kernel_rfl) (by kernel_rfl) (by kernel_rfl) rfl ?hstep1 ?hend1
              case hstep1 =>
                intro i o a u hi ho hF hB hd
                have z3 := Rep.cell_on hB y3
                have z4 := Rep.cell_on hB y4
                have f0 : a.tmps[0]?.getD undef = .string s := Reg.ev_get (hF.eval 0 (fun i hi => by show 88 + i ≠ 0; omega))
                have f6 : a.tmps[6]?.getD undef = .slice (some ⟨g, 0, none⟩) L.length c1 := Reg.ev_get (hF.eval 6 (fun i hi => by show 88 + i ≠ 6; omega))
                have f10 : a.tmps[10]?.getD undef = .int .i64 (la : Int) := Reg.ev_get (hF.eval 10 (fun i hi => by show 88 + i ≠ 10; omega))
                have f11 : a.tmps[11]?.getD undef = .int .i64 (j : Int) := Reg.ev_get (hF.eval 11 (fun i hi => by show 88 + i ≠ 11; omega))
                iterate 35 (rcases Nat.lt_succ_iff_lt_or_eq.1 hi with hi | rfl)
                exact absurd hi (Nat.not_lt_zero _)
                all_goals (
                  simp only [List.getElem?_toArray, List.getElem?_cons_succ, List.getElem?_cons_zero, Option.some.injEq] at ho
                  subst ho
                  first
                  | exact Reg.does_tab0 rfl rfl rfl rfl (hd _ (by decide)) rfl
                  | (first
                    | refine Reg.Does.go rfl (Reg.step_k fun K hK => ?_)
                    | refine Reg.does_tab rfl rfl rfl rfl (hd _ (by decide)) (Reg.step_k fun K hK => ?_)
                     simp [Reg.deps, Region.binds] at hd
                     go_simp
                     first | exact hK _ _ ⟨_, rfl, Below.refl _ _, rfl⟩ | (obtain ⟨n1, n2, n3, n4⟩ := HN.out; exact hK _ _ ⟨_, rfl, Below.refl _ _, by simp [Reg.Tab, go_sem, *]⟩)))
              case hend1 =>
                intro a w2 hF hB hG
                have HW2 := hideR (HB.out.trans (hB.mono HB.out.size))
                have HT2 := hideR (HT.out.on hB)
                have y3 := Rep.cell_on hB y3
                obtain ⟨xl, hxl, rfl, hev⟩ := hF.lit (by simp)
                obtain rfl := Reg.lit_tab hxl (L := [.slice (some ⟨g, 0, none⟩) L.length c1, .int .i64 (j : Int), .pointer (some ⟨g, j * 4, none⟩), .pointer (some ⟨g, j * 4 + 3, none⟩), .int .i64 (p : Int), .int .i64 (la : Int), .bool false, .bool false, .slice (some ⟨g, 0, none⟩) L.length c1, .int .i64 (j : Int), .pointer (some ⟨g, j * 4, none⟩), .pointer (some ⟨g, j * 4 + 3, none⟩), .int .i64 (p : Int), .string s, .int .i64 (s.size : Int), .bool false, .bool false, .bool false, .int .i64 (j : Int), .bool true, .bool true, .slice (some ⟨g, 0, none⟩) L.length c1, .int .i64 (j : Int), .pointer (some ⟨g, j * 4, none⟩), .pointer (some ⟨g, j * 4 + 3, none⟩), .int .i64 (p : Int), .slice (some ⟨g, 0, none⟩) L.length c1, .int .i64 (j : Int), .int .i64 (i0 : Int), .pointer (some ⟨g, i0 * 4, none⟩), .pointer (some ⟨g, i0 * 4 + 3, none⟩), .int .i64 (la : Int), .bool false, .bool false, .bool false]) rfl (fun i hi => by rw [← hev i hi]; exact hG i hi)
                clear hev hxl hF hG hB HB HT
                simp only [List.take_succ_cons, List.take_zero, List.drop_succ_cons, List.drop_zero, List.cons_append, List.nil_append]
                go_wp2
                go_roundw
                case rel => exact ⟨_, p, j + 1, rfl, rfl, by first | rfl | (congr 1), hjl, HG2, HW2, HT2⟩
                case measure => simp only [hw1]; clear hw1 q4 q5 q6; simp; omega
          · have hjL : j = L.length := by omega
            have q4 := aK L.length j hjl
            have hgs := gth_spr s b L
            have hgz := gth_sz (s := s) (b := b) HS.out HB3.out (L := L) HL4.out
            have hgl := gth_la (s := s) (b := b) HUp.out
            have hT : T = (gth s b L).1 ∧ la = (gth s b L).2.1 := by have := HG.out; rw [hjL, List.take_length] at this; exact this
            obtain ⟨X, hX⟩ : ∃ X, s.extract la s.size = X := ⟨_, rfl⟩
            have hXz : X.size ≤ 1600 := by rw [← hX, ByteArray.size_extract]; have := HS.out; omega
            obtain ⟨U, hU⟩ : ∃ U, T ++ X = U := ⟨_, rfl⟩
            have hUs : U = spr s b L := by rw [← hU, ← hX, hT.1, hT.2, hgs]
            have hc1 := bF (a := T.size) (b := X.size) (by rw [hT.1]; exact hgz) hXz
            have pS := bG (a := la) (z := s.size) (by rw [hT.2]; exact hgl)
            have pR := pS.2
            rw [← hUs] at HJ
            have HWk2 := HWk _ HB.out
            have HLx := hideR (pLexO U wr (HWL.out.on HB.out))
            clear hT hgs hgz hgl hXz hUs HG HUp hjL
            by_cases hz : 8192 < U.size
            · have q5 : decide ((U.size : Int) > 8192) = true := decide_eq_true (by omega)
              clear HJ HLx
              have HUZ := hideR hz
              clear hz
              go_wp2_with fail
              refine HWk2.out.mono ?_
              rintro e u4 ⟨rfl, hb4⟩
              have HB4 := hideR (below_go HB.out hb4)
              clear hb4
              go_wp2
              go_ret
              exact ⟨rfl, HB4.out⟩
            · have q5 : decide ((U.size : Int) > 8192) = false := decide_eq_false (by omega)
              obtain ⟨K, hK, hLk⟩ := HJ.out (by omega)
              rw [hK] at HLx
              have HLK := hideR hLk
              clear hK hLk HJ HWk2
              have HUZ := hideR hz
              clear hz
              go_wp2_with fail
              refine HLx.out.mono ?_
              rintro e u3 ⟨v3, rfl, hT3, hb3⟩
              have HT3 := hideR (tkAt_own hT3)
              obtain ⟨o3, c3, hv3⟩ := own_slice hT3
              have HB3b := hideR (below_go HB.out hb3)
              have HTb := hideR (HT.out.on hb3)
              have hv3 : v3 = .slice o3 K.length c3 := hv3
              subst hv3
              have HSm := hideR (rSame (.slice o1 L.length c1) (.slice o3 K.length c3) L K false u3 HTb.out HT3.out HLK.out.len HL4.out HLK.out.eqs)
              clear hT3 hb3 HB HT HLx HT3 HTb HLK
              go_wp2_with fail
              refine HSm.out.mono ?_
              rintro e u5 ⟨rfl, hb5⟩
              have HB5 := hideR (below_go HB3b.out hb5)
              have HWk5 := HWk _ HB5.out
              clear hb5
              go_wp2_with fail
              refine HWk5.out.mono ?_
              rintro e u6 ⟨rfl, hb6⟩
              have HB6 := hideR (below_go HB5.out hb6)
              clear hb6 HWk5
              go_wp2
              go_ret
              exact ⟨rfl, HB6.out⟩
      · obtain ⟨k1, k2, k3⟩ := lx_err (by have := HS.out; omega) he
        generalize lx s = R at *
        obtain ⟨L, pl, er⟩ := R
        simp only at he k1 k2 k3
        subst k1
        have q4 := ne_of he
        have q5 : decide (pl ≥ 0) = true := decide_eq_true k2
        have q6 : decide (pl < (s.size : Int)) = true := decide_eq_true k3
        clear he HA
        go_wp2_with fail
        refine H1.out.mono ?_
        rintro e u1 ⟨v1, rfl, hT1, hb1⟩
        obtain ⟨o1, c1, rfl⟩ := own_slice hT1
        have HB1 := hideR hb1
        clear hT1 hb1 H1
        go_wp2_with fail
        refine (HWk _ HB1.out).out.mono ?_
        rintro e u4 ⟨rfl, hb4⟩
        have HB4 := hideR (below_go HB1.out hb4)
        clear hb4 HB1 HWk
        go_wp2
        go_ret
        exact ⟨rfl, HB4.out⟩
end Go.Proofs.YtagoajoaojakhaaDoor
