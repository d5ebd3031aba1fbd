/- Texts that the claim needs. -/
import Derived.Test.YtkflfohoinbenaaQTA14
import Derived.Test.YtkflfohoinbenaaQTA8
namespace Go.Proofs.Ytkflfohoinbenaa
open Go.RowKit Lx Pz Rep Ty
set_option linter.unusedVariables false
set_option maxRecDepth 100000
set_option maxHeartbeats 16000000
theorem appliesC (N dl d : Nat) (l : List (Value × Value)) (t vl v : Value) (w : World) (hN : N ≤ 255) (hl : Row 8 (PrC w dl) vl l) (ht : TyV 0 d w t v) (hsl : ∀ x ∈ l, (∀ e, smT e x.1) ∧ ∀ e, smT e x.2) (hst : ∀ e, smT e t) : Calls Try.prog 4 #[.int .u8 (N : Int), vl, v] w fun e w' => e = .returned (.bool true) ∧ Below w.heap.size w w' := by
  obtain ⟨m, hm⟩ : ∃ m, 1025 ≤ m := ⟨1025, Nat.le_refl _⟩
  obtain ⟨f, hf⟩ : ∃ f, 65537 ≤ f := ⟨65537, Nat.le_refl _⟩
  obtain ⟨oR, cR, rfl, hel⟩ := row_at hl
  have ht' := ht
  obtain ⟨k, x, n0, es, uT, _, rfl, hr⟩ := ht
  obtain ⟨oT, cT, hu, _⟩ := row_at hr
  have hou : uT.oneCell' = true := by rw [hu]; rfl
  obtain ⟨W, hW⟩ : ∃ W, W = w.alloc (.cells #[.int .i64 k, .string x, .int .i64 n0, uT] 34) := ⟨_, rfl⟩
  have hb : Below w.heap.size w W := by rw [hW]; exact new_on' _ _
  have hx : W.heap[w.heap.size]? = some (.cells #[.int .i64 k, .string x, .int .i64 n0, uT] 34 (0, 0)) := by rw [hW]; exact heap_alloc_new w _
  have HLG := hideR (t_large dl W l _ (hl.imp fun b o x _ h => h.on hb))
  have HLT := hideR (fun (u9 : World) (hu : Below W.heap.size W u9) => r_LargeType d u9 t _ (ht'.but (Abv.of (below_go hb hu))))
  have HTV := hideR (ht'.but (Abv.of hb))
  have HEL := hideR (fun i x (hi : l[i]? = some x) => (by
    obtain ⟨b1, off, ho, hc⟩ := hel i x hi
    exact ⟨b1, off, ho, hc.on hb⟩ : ∃ b1 off, oR = some ⟨b1, off, none⟩ ∧ PrC W dl b1 (off + i * 8) x))
  have HSM := hideR (And.intro hsl hst)
  have HM := hideR (And.intro hm hf)
  have HB := hideR hb
  have HX := hideR hx
  have HNN := hideR hN
  have HLN := hideR hl.1
  clear hl hel ht' hr hu hb hx hN hm hf hsl hst
  go_enter Try.func4, Try.ntmps4
  go_upto_region 1 with fail
  rw [← hW]
  clear hW
  go_wp2_with fail
  refine Calls.mono (show Calls _ _ _ _ _ from HLG.out) ?_
  rintro e w1 ⟨b, rfl, hb1, hfl⟩
  have HB1 := hideR hb1
  clear hb1 HLG
  cases b with
  | true =>
    clear hfl
    have HWK := hideR (wakesC w1)
    go_wp2_with fail
    refine Calls.mono (show Calls _ _ _ _ _ from HWK.out) ?_
    rintro e w2 ⟨rfl, hb2⟩
    have HB2 := hideR (below_go HB.out (below_go HB1.out hb2))
    clear hb2 HWK
    go_wp2
    go_ret
    exact ⟨rfl, HB2.out⟩
  | false =>
    have HFL := hideR (hfl rfl)
    have HLT1 := hideR (HLT.out w1 HB1.out)
    have hx1 := (HB1.out.block _ (Array.getElem?_eq_some_iff.1 HX.out).1).trans HX.out
    have z0 := put_cell hx1 0 _ rfl
    have z1 := put_cell hx1 1 _ rfl
    have z2 := put_cell hx1 2 _ rfl
    have z3 := put_cell hx1 3 _ rfl
    clear hfl hx1 HLT
    go_wp2_with fail
    refine Calls.mono (show Calls _ _ _ _ _ from HLT1.out) ?_
    rintro e w2 ⟨b, rfl, hb2, hft⟩
    have HB2 := hideR (below_go HB1.out hb2)
    clear hb2 HLT1 HB1 z0 z1 z2 z3
    cases b with
    | true =>
      clear hft
      have HWK := hideR (wakesC w2)
      go_wp2_with fail
      refine Calls.mono (show Calls _ _ _ _ _ from HWK.out) ?_
      rintro e w3 ⟨rfl, hb3⟩
      have HB3 := hideR (below_go HB.out (below_go HB2.out hb3))
      clear hb3 HWK
      go_wp2
      go_ret
      exact ⟨rfl, HB3.out⟩
    | false =>
      have HFT := hideR (hft rfl)
      have HFW := hideR (t_few w2 N HNN.out)
      clear hft
      go_wp2_with fail
      refine Calls.mono (show Calls _ _ _ _ _ from HFW.out) ?_
      rintro e w3 ⟨rfl, hb3⟩
      have HB3 := hideR (below_go HB2.out hb3)
      have HBT := hideR (t_both w3 (N % 12 + 1) (by omega))
      clear hb3 HFW HB2
      obtain ⟨n, hn⟩ : ∃ n, n = N % 12 + 1 := ⟨_, rfl⟩
      rw [← hn] at HBT
      rw [← hn]
      clear hn
      go_wp2_with fail
      refine Calls.mono (show Calls _ _ _ _ _ from HBT.out) ?_
      rintro e w4 ⟨p, r, xs, vs, bs, rfl, hb4, hbo⟩
      have HLO := hideR (show ∀ k, SB p r vs bs k → W.heap.size ≤ k by
        have h1 := HB3.out.size
        have h2 := hbo.lo
        obtain ⟨ys, ho, _⟩ := hbo.sv.row
        have h3 := hbo.hir
        intro k hk
        rcases hk with rfl | rfl | hk | hk
        · omega
        · omega
        · have := (ho.lt k hk).1; omega
        · have := (hbo.dv.row.lt k hk).1; omega)
      have HAP : Hid (Apt p r vs bs) := hideR ⟨hbo.ne, hbo.a1, hbo.a2, hbo.a3⟩
      have HS4 : Hid (SO (SB p r vs bs) w3.heap.size n vr p vs w4) := hideR (SO.newS hbo.sv (.inl rfl) (fun k e => .inr (.inr (.inl e))))
      have HD4 : Hid (∃ pr, DO (SB p r vs bs) w3.heap.size n vr r bs pr w4) := hideR ⟨0, DO.newS hbo.dv hbo.zr (.inr (.inl rfl)) (fun k e => .inr (.inr (.inr e)))⟩
      have HB4 := hideR (below_go HB3.out hb4)
      obtain ⟨S, hSd⟩ : ∃ S, S = SB p r vs bs := ⟨_, rfl⟩
      rw [← hSd] at HLO HS4 HD4
      have HSD : Hid (S p ∧ S r ∧ (∀ k, vs.ownBlock = some k → S k) ∧ ∀ k, bs.ownBlock = some k → S k) := hideR (by rw [hSd]; exact ⟨.inl rfl, .inr (.inl rfl), fun k e => .inr (.inr (.inl e)), fun k e => .inr (.inr (.inr e))⟩)
      have HSL : Hid (∀ (h h' : Nat → Value) (pr : Int) (u : World), SO S w3.heap.size n h p vs u → DO S w3.heap.size n h' r bs pr u → ∀ k, S k → k < u.heap.size) := hideR (by
        intro h h' pr u h1 h2 k hk
        rw [hSd] at hk
        rcases hk with rfl | rfl | hk | hk
        · exact h1.lt.1
        · exact h2.lt.1
        · exact h1.lt.2 k hk
        · exact h2.lt.2.1 k hk)
      clear hb4 hbo HBT HB3 hSd
      go_wp2_with fail
      go_loopw [9] (fun aa wr => ∃ (i : Nat) (h : Nat → Value), aa = .int .i64 i ∧ i ≤ l.length ∧ i ≤ 12 ∧ Hid (SO S w3.heap.size n h p vs wr) ∧ Hid (∃ pr, DO S w3.heap.size n h r bs pr wr) ∧ Hid (Below W.heap.size W wr)) (fun aa _ => match aa with | .int _ i => l.length - i.toNat | _ => 0)
      case atStart => exact ⟨0, vr, rfl, Nat.zero_le _, Nat.zero_le _, HS4, HD4, HB4⟩
      case round =>
        obtain ⟨i, h, rfl, hi, hi2, HS, HD, HW⟩ := hrel
        clear HS4 HD4 HB4
        by_cases hp : i < l.length ∧ i < 12
        · have q1 : decide ((i : Int) < (l.length : Int)) = true := decide_eq_true (by omega)
          have q2 : decide ((i : Int) < 12) = true := decide_eq_true (by omega)
          have hw2 : wrap64 ((i : Int) + 1) = ((i + 1 : Nat) : Int) := by unfold wrap64; omega
          obtain ⟨pr, hpr⟩ : ∃ pr, l[i]? = some pr := ⟨_, List.getElem?_eq_getElem hp.1⟩
          obtain ⟨b1, off, hoR, hCW⟩ := HEL.out i pr hpr
          have hC := hCW.on HW.out
          subst hoR
          obtain ⟨k1, x1, n1, u1, c0, c1, c2, c3, hV1⟩ := tyC_val hCW.1
          obtain ⟨k2, x2, n2, u2, e0', e1', e2', e3', hV2⟩ := tyC_val hCW.2
          have g0 := cell_on HW.out c0
          have g1 := cell_on HW.out c1
          have g2 := cell_on HW.out c2
          have g3 := cell_on HW.out c3
          have l0 := cell_on HW.out e0'
          have l1 := cell_on HW.out e1'
          have l2 := cell_on HW.out e2'
          have l3 := cell_on HW.out e3'
          obtain ⟨hf1, hf2⟩ := HFL.out i pr hp.2 hpr
          have HG := hideR (And.intro c0 (And.intro c1 (And.intro c2 (And.intro c3 (And.intro e0' (And.intro e1' (And.intro e2' e3')))))))
          have HC1 := hideR (fun (u9 : World) (hu : Below wr.heap.size wr u9) => t_copied dl u9 pr.1 _ ((hV1.but (Abv.of HW.out)).but (Abv.of hu)) hf1)
          have HC2 := hideR (fun (u9 : World) (hu : Below wr.heap.size wr u9) => t_copied dl u9 pr.2 _ ((hV2.but (Abv.of HW.out)).but (Abv.of hu)) hf2)
          have HFF := hideR (And.intro hf1 hf2)
          have HSS := hideR (HSM.out.1 pr (List.mem_of_getElem? hpr))
          have HI1 := hideR (fun (u9 : World) (hu : Below W.heap.size W u9) => InX.low (S := S) hV1 hu (fun k hk hs => by have := HLO.out k hs; omega) hf1 HSS.out.1)
          have HI2 := hideR (fun (u9 : World) (hu : Below W.heap.size W u9) => InX.low (S := S) hV2 hu (fun k hk hs => by have := HLO.out k hs; omega) hf2 HSS.out.2)
          clear g0 g1 g2 g3 l0 l1 l2 l3 c0 c1 c2 c3 e0' e1' e2' e3' hV1 hV2 hf1 hf2 hC hCW hpr
          go_upto_region 7 with fail
          obtain ⟨TL, hTL⟩ : ∃ TL : List Value, TL = [.pointer (some ⟨p, 0, none⟩), .slice (some ⟨b1, off, none⟩) l.length cR, .int .i64 i, .pointer (some ⟨b1, off + i * 8, none⟩), .pointer (some ⟨b1, off + i * 8, none⟩), .agg #[.int .i64 k1, .string x1, .int .i64 n1, u1], undef, .slice (some ⟨b1, off, none⟩) l.length cR, .int .i64 i, .pointer (some ⟨b1, off + i * 8, none⟩), .pointer (some ⟨b1, off + i * 8 + 4, none⟩), .agg #[.int .i64 k2, .string x2, .int .i64 n2, u2], undef] := ⟨_, rfl⟩
          have HTL := hideR hTL
          clear hTL
          refine Reg.wp_region_two 13 (fun j => 37 + j) (fun j v u => if j = 6 then tyO wr.heap.size pr.1 v u else if j = 12 then tyO wr.heap.size pr.2 v u else v = TL.getD j undef) (by kernel_rfl) (by kernel_rfl) (fun i1 i2 h1 h2 h => by have h' : 37 + i1 = 37 + i2 := h; omega) (Reg.dst_ok (dst := fun j => 37 + j) (size := 95) (by kernel_rfl)) (fun j v u u' _ h hb => by
              by_cases h3 : j = 6
              · rw [if_pos h3] at h ⊢; exact h.on (Abv.lo (Abv.of hb) (Nat.zero_le _)) (Nat.le_refl _)
              · rw [if_neg h3] at h ⊢
                by_cases h5 : j = 12
                · rw [if_pos h5] at h ⊢; exact h.on (Abv.lo (Abv.of hb) (Nat.zero_le _)) (Nat.le_refl _)
                · rw [if_neg h5] at h ⊢; exact h) ?hs7 ?ht7
          case hs7 =>
            intro j o' a9 u9 hj ho hF hB hd
            have f1 : a9.tmps[1]?.getD undef = .slice (some ⟨b1, off, none⟩) l.length cR := Reg.ev_get (hF.eval 1 (fun i hi => by show 37 + i ≠ 1; omega))
            have f7 : a9.tmps[7]?.getD undef = .pointer (some ⟨p, 0, none⟩) := Reg.ev_get (hF.eval 7 (fun i hi => by show 37 + i ≠ 7; omega))
            have f9 : a9.tmps[9]?.getD undef = .int .i64 (i : Int) := Reg.ev_get (hF.eval 9 (fun i hi => by show 37 + i ≠ 9; omega))
            obtain ⟨g0, g1, g2, g3, l0, l1, l2, l3⟩ := HG.out
            have hBW := below_go HW.out hB
            have g0 := cell_on hBW g0
            have g1 := cell_on hBW g1
            have g2 := cell_on hBW g2
            have g3 := cell_on hBW g3
            have l0 := cell_on hBW l0
            have l1 := cell_on hBW l1
            have l2 := cell_on hBW l2
            have l3 := cell_on hBW l3
            have HCA := hideR (HC1.out u9 hB)
            have HCB := hideR (HC2.out u9 hB)
            have hsz := hB.size
            have hd2 : ∀ j2 ∈ Reg.deps o', j2 ≠ 6 → j2 ≠ 12 → a9.tmps[37 + j2]?.getD undef = TL.getD j2 undef := fun j2 hj2 h3 h5 => by
              have h := hd j2 hj2
              rw [if_neg h3, if_neg h5] at h
              exact Reg.ev_get h
            have hTL := HTL.out
            subst hTL
            clear hd hBW
            rcases (by omega : j = 6 ∨ j = 12 ∨ (j ≠ 6 ∧ j ≠ 12)) with rfl | rfl | hn6
            · simp only [List.getElem?_toArray, List.getElem?_cons_succ, List.getElem?_cons_zero, Option.some.injEq] at ho
              subst ho
              refine Reg.step_k fun Z9 hZ => ?_
              simp [Reg.deps, Region.binds] at hd2
              go_simp
              refine Calls.mono (show Calls _ _ _ _ _ from HCA.out) ?_
              rintro e w' ⟨v9, rfl, h1, h2⟩
              exact hZ _ _ ⟨_, rfl, h1, h2.on (fun _ _ _ => rfl) hsz⟩
            · simp only [List.getElem?_toArray, List.getElem?_cons_succ, List.getElem?_cons_zero, Option.some.injEq] at ho
              subst ho
              refine Reg.step_k fun Z9 hZ => ?_
              simp [Reg.deps, Region.binds] at hd2
              go_simp
              refine Calls.mono (show Calls _ _ _ _ _ from HCB.out) ?_
              rintro e w' ⟨v9, rfl, h1, h2⟩
              exact hZ _ _ ⟨_, rfl, h1, h2.on (fun _ _ _ => rfl) hsz⟩
            · clear HCA HCB
              rcases cases13 hj with rfl | rfl | rfl | rfl | rfl | rfl | rfl | rfl | rfl | rfl | rfl | rfl | rfl
              all_goals (
                simp only [List.getElem?_toArray, List.getElem?_cons_succ, List.getElem?_cons_zero, Option.some.injEq] at ho
                subst ho
                first
                | exact absurd rfl hn6.1
                | exact absurd rfl hn6.2
                | (refine Reg.step_k fun Z9 hZ => ?_
                   clear hn6
                   simp [Reg.deps, Region.binds] at hd2
                   go_simp
                   first
                   | exact hZ _ _ ⟨_, rfl, Below.refl _ _, rfl⟩
                   | exact hZ _ _ ⟨_, rfl, Below.refl _ _, by simp [*]⟩))
          case ht7 =>
            intro a9 u9 hF hB hG
            obtain ⟨xl, hxl, rfl, hev⟩ := hF.lit (by simp)
            obtain ⟨s0, s1, s2, s3, s4, s5, s6, s7, s8, s9, s10, s11, s12, rfl⟩ := plen13 hxl
            have h0 := hG 0 (by decide)
            rw [if_neg (by decide), if_neg (by decide), HTL.out] at h0
            obtain rfl : s0 = .pointer (some ⟨p, 0, none⟩) := (hev 0 (by decide)).symm.trans h0
            have h6 := hG 6 (by decide)
            have h12 := hG 12 (by decide)
            rw [if_pos rfl, show _ = s6 from hev 6 (by decide)] at h6
            rw [if_neg (by decide), if_pos rfl, show _ = s12 from hev 12 (by decide)] at h12
            obtain ⟨q1', hq1, hI1⟩ := InX.of2 (S := fun _ => False) h6 (fun _ _ h => h) HFF.out.1 HSS.out.1
            obtain ⟨q2', hq2, hI2⟩ := InX.of2 (S := fun _ => False) h12 (fun _ _ h => h) HFF.out.2 HSS.out.2
            have hs9 := HS.out.bel hB
            have hd9 : ∃ pr, DO S w3.heap.size n h r bs pr u9 := by
              obtain ⟨pr9, h9⟩ := HD.out
              exact ⟨pr9, h9.bel hB⟩
            have HU1 := hideR (t_UnifyP HM.out.1 HM.out.2 u9 hs9 (by obtain ⟨_, h9⟩ := hd9; exact HSL.out _ _ _ u9 hs9 h9) hI1.in_ hI2.in_)
            have HW9 := hideR (below_go HW.out hB)
            have HD9 := hideR hd9
            have HQ := hideR (And.intro hq1 hq2)
            clear hev hxl hF hG hB h0 h6 h12 hI1 hI2 hs9 hd9 hq1 hq2 HC1 HC2 HS HD HW HTL
            simp only [List.take_succ_cons, List.take_zero, List.drop_succ_cons, List.drop_zero, List.cons_append, List.nil_append]
            go_wp2_with fail
            refine Calls.mono (show Calls _ _ _ _ _ from HU1.out) ?_
            rintro e u3 ⟨hsaid, hk3⟩
            obtain ⟨rfl, hs3⟩ := unP_said HFF.out.1 HFF.out.2 HQ.out.1 HQ.out.2 hsaid
            have HS3 := hideR hs3
            have HD3 : Hid (∃ pr, DO S w3.heap.size n h r bs pr u3) := hideR (by
              obtain ⟨pr9, h9⟩ := HD9.out
              exact ⟨pr9, h9.kv hk3 HAP.out HSD.out.2.2.1⟩)
            have HW3 := hideR (hk3.bel HW9.out (fun k e => HLO.out k (HSD.out.2.2.1 k e)))
            clear hsaid hk3 hs3 HU1 HW9 HD9
            go_upto_region 8 with fail
            obtain ⟨TL, hTL⟩ : ∃ TL : List Value, TL = [.pointer (some ⟨r, 0, none⟩), .slice (some ⟨b1, off, none⟩) l.length cR, .int .i64 i, .pointer (some ⟨b1, off + i * 8, none⟩), .pointer (some ⟨b1, off + i * 8, none⟩), .agg #[.int .i64 k1, .string x1, .int .i64 n1, u1], .slice (some ⟨b1, off, none⟩) l.length cR, .int .i64 i, .pointer (some ⟨b1, off + i * 8, none⟩), .pointer (some ⟨b1, off + i * 8 + 4, none⟩), .agg #[.int .i64 k2, .string x2, .int .i64 n2, u2]] := ⟨_, rfl⟩
            have HTL := hideR hTL
            clear hTL
            refine Reg.wp_region_two 11 (fun j => 51 + j) (fun j v u => v = TL.getD j undef) (by kernel_rfl) (by kernel_rfl) (fun i1 i2 h1 h2 h => by have h' : 51 + i1 = 51 + i2 := h; omega) (Reg.dst_ok (dst := fun j => 51 + j) (size := 95) (by kernel_rfl)) (fun j v u u' _ h hb => h) ?hs8 ?ht8
            case hs8 =>
              intro j o' a9 u9 hj ho hF hB hd
              have f1 : a9.tmps[1]?.getD undef = .slice (some ⟨b1, off, none⟩) l.length cR := Reg.ev_get (hF.eval 1 (fun i hi => by show 51 + i ≠ 1; omega))
              have f8 : a9.tmps[8]?.getD undef = .pointer (some ⟨r, 0, none⟩) := Reg.ev_get (hF.eval 8 (fun i hi => by show 51 + i ≠ 8; omega))
              have f9 : a9.tmps[9]?.getD undef = .int .i64 (i : Int) := Reg.ev_get (hF.eval 9 (fun i hi => by show 51 + i ≠ 9; omega))
              obtain ⟨g0, g1, g2, g3, l0, l1, l2, l3⟩ := HG.out
              have hBW := below_go HW3.out hB
              have g0 := cell_on hBW g0
              have g1 := cell_on hBW g1
              have g2 := cell_on hBW g2
              have g3 := cell_on hBW g3
              have l0 := cell_on hBW l0
              have l1 := cell_on hBW l1
              have l2 := cell_on hBW l2
              have l3 := cell_on hBW l3
              have hd2 : ∀ j2 ∈ Reg.deps o', a9.tmps[51 + j2]?.getD undef = TL.getD j2 undef := fun j2 hj2 => Reg.ev_get (hd j2 hj2)
              have hTL := HTL.out
              subst hTL
              clear hd hBW
              rcases cases11 hj with rfl | rfl | rfl | rfl | rfl | rfl | rfl | rfl | rfl | rfl | rfl
              all_goals (
                simp only [List.getElem?_toArray, List.getElem?_cons_succ, List.getElem?_cons_zero, Option.some.injEq] at ho
                subst ho
                refine Reg.step_k fun Z9 hZ => ?_
                simp [Reg.deps, Region.binds] at hd2
                go_simp
                first
                | exact hZ _ _ ⟨_, rfl, Below.refl _ _, rfl⟩
                | exact hZ _ _ ⟨_, rfl, Below.refl _ _, by simp [*]⟩)
            case ht8 =>
              intro a9 u9 hF hB hG
              obtain ⟨xl, hxl, rfl, hev⟩ := hF.lit (by simp)
              obtain ⟨s0, s1, s2, s3, s4, s5, s6, s7, s8, s9, s10, rfl⟩ := tlen11 hxl
              have h0 := hG 0 (by decide)
              have h5 := hG 5 (by decide)
              have h10 := hG 10 (by decide)
              rw [HTL.out] at h0 h5 h10
              obtain rfl : s0 = .pointer (some ⟨r, 0, none⟩) := (hev 0 (by decide)).symm.trans h0
              obtain rfl : s5 = .agg #[.int .i64 k1, .string x1, .int .i64 n1, u1] := (hev 5 (by decide)).symm.trans h5
              obtain rfl : s10 = .agg #[.int .i64 k2, .string x2, .int .i64 n2, u2] := (hev 10 (by decide)).symm.trans h10
              have hBW := below_go HW3.out hB
              have hs9 := HS3.out.bel hB
              obtain ⟨pr9, hd9⟩ : ∃ pr, DO S w3.heap.size n h r bs pr u9 := by
                obtain ⟨pr9, h9⟩ := HD3.out
                exact ⟨pr9, h9.bel hB⟩
              have hsl9 : ∀ k, S k → k < u9.heap.size := HSL.out _ _ _ u9 hs9 hd9
              have HU2 := hideR (t_dUnify HM.out.1 HM.out.2 u9 hd9 hsl9 (HI1.out u9 hBW) (HI2.out u9 hBW))
              have HS9 := hideR hs9
              have HW9 := hideR hBW
              clear hev hxl hF hG hB h0 h5 h10 hs9 hd9 hsl9 hBW HS3 HD3 HW3 HTL HG
              simp only [List.take_succ_cons, List.take_zero, List.drop_succ_cons, List.drop_zero, List.cons_append, List.nil_append]
              go_wp2_with fail
              refine Calls.mono (show Calls _ _ _ _ _ from HU2.out) ?_
              rintro e u4 ⟨pr4, rfl, hd4, hk4⟩
              have HS4 := hideR (HS9.out.kpD hk4 HAP.out HSD.out.2.1 HSD.out.2.2.2)
              have HD4 : Hid (∃ prx, DO S w3.heap.size n (nxH m f n dl h pr.1 pr.2) r bs prx u4) := hideR ⟨pr4, hd4⟩
              have HW4 := hideR (hk4.bel HW9.out (HLO.out r HSD.out.2.1) (fun k e => HLO.out k (HSD.out.2.2.2 k e)))
              clear hd4 hk4 HU2 HW9 HS9
              go_wp2
              go_roundw
              case rel => exact ⟨i + 1, nxH m f n dl h pr.1 pr.2, by first | rfl | (congr 1), hp.1, hp.2, HS4, HD4, HW4⟩
              case measure => (simp; omega)
        · have HE : Hid (i < l.length → ¬ i < 12) := hideR (fun h1 h2 => hp ⟨h1, h2⟩)
          clear hp
          by_cases hp1 : i < l.length
          · have q1 : decide ((i : Int) < (l.length : Int)) = true := decide_eq_true (by omega)
            have q2 : decide ((i : Int) < 12) = false := decide_eq_false (by have := HE.out hp1; omega)
            clear HE
            have hx1 := (HW.out.block _ (Array.getElem?_eq_some_iff.1 HX.out).1).trans HX.out
            have z0 := put_cell hx1 0 _ rfl
            have z1 := put_cell hx1 1 _ rfl
            have z2 := put_cell hx1 2 _ rfl
            have z3 := put_cell hx1 3 _ rfl
            have HC1 := hideR (t_copied d wr t _ (HTV.out.but (Abv.of HW.out)) HFT.out)
            have hslr : ∀ k, S k → k < wr.heap.size := by obtain ⟨_, h9⟩ := HD.out; exact HSL.out _ _ _ wr HS.out h9
            clear hx1
            go_wp2_with fail
            refine Calls.mono (show Calls _ _ _ _ _ from HC1.out) ?_
            rintro e u1 ⟨v1, rfl, hb1, hty1⟩
            have hs1 := HS.out.bel hb1
            obtain ⟨q1', hq1, hI1⟩ := InX.of2 (S := S) hty1 (fun k hk hs => by have := hslr k hs; omega) HFT.out HSM.out.2
            have HA1 := hideR (t_ApplyP HM.out.1 u1 hs1 (fun k hk => Nat.lt_of_lt_of_le (hslr k hk) hb1.size) hI1)
            have HI1 := hideR (And.intro hq1 (fun (g : tkT n q1' t = true) => hI1.gp g))
            have HW1 := hideR (below_go HW.out hb1)
            have HGD := hideR hs1.gd
            have HD1 : Hid (∃ pr, DO S w3.heap.size n h r bs pr u1) := hideR (by
              obtain ⟨pr9, h9⟩ := HD.out
              exact ⟨pr9, h9.bel hb1⟩)
            clear hb1 hty1 hs1 hslr hq1 hI1 HC1 HS HD HW z0 z1 z2 z3
            go_wp2_with fail
            refine Calls.mono (show Calls _ _ _ _ _ from HA1.out) ?_
            rintro e u2 ⟨va, za, rfl, _, hk2, hsaid⟩
            have HW2 := hideR (hk2.bel HW1.out (fun k e => HLO.out k (HSD.out.2.2.1 k e)))
            obtain ⟨pr9, hd2⟩ : ∃ pr, DO S w3.heap.size n h r bs pr u2 := by
              obtain ⟨pr9, h9⟩ := HD1.out
              exact ⟨pr9, h9.kv hk2 HAP.out HSD.out.2.2.1⟩
            obtain ⟨k2, x2, n2, r2, rfl, hone2⟩ : ∃ k x n u, va = .agg #[.int .i64 k, .string x, .int .i64 n, u] ∧ u.oneCell' = true := by
              rcases hsaid with ⟨_, _, h1⟩ | ⟨_, _, _, h1⟩ | ⟨_, _, _, h1⟩
              · exact ⟨_, _, _, _, h1, rfl⟩
              · exact ⟨_, _, _, _, h1, rfl⟩
              · exact h1.val
            obtain ⟨W4, hW4⟩ : ∃ W4, W4 = u2.alloc (.cells #[.int .i64 0, .string ⟨#[]⟩, .int .i64 0, .slice none 0 0] 34) := ⟨_, rfl⟩
            have hb4 : Below u2.heap.size u2 W4 := by rw [hW4]; exact new_on' _ _
            have hx4 : W4.heap[u2.heap.size]? = some (.cells #[.int .i64 0, .string ⟨#[]⟩, .int .i64 0, .slice none 0 0] 34 (0, 0)) := by rw [hW4]; exact heap_alloc_new u2 _
            obtain ⟨W5, hW5, hth5, hbk5, hbl5, hne5⟩ := put4 (w := u2) (z := #[.int .i64 0, .string ⟨#[]⟩, .int .i64 0, .slice none 0 0]) (vs := #[.int .i64 k2, .string x2, .int .i64 n2, r2]) rfl hx4 hb4 (Nat.le_refl _)
            have HT5 := hideR hth5; have HW5 := hideR hW5; have HX5 := hideR hbk5
            have HB5 := hideR (below_go HW2.out hbl5)
            have HL5 := hideR hbl5
            have HAD := hideR (t_dApply HM.out.1 W5 (hd2.bel hbl5) (InX.low (S := S) HTV.out HB5.out (fun k hk hs => by have := HLO.out k hs; omega) HFT.out HSM.out.2))
            have HSP := hideR hsaid
            have hxt := (HB5.out.block _ (Array.getElem?_eq_some_iff.1 HX.out).1).trans HX.out
            have z0 := put_cell hxt 0 _ rfl
            have z1 := put_cell hxt 1 _ rfl
            have z2 := put_cell hxt 2 _ rfl
            have z3 := put_cell hxt 3 _ rfl
            clear hk2 hsaid hd2 hb4 hx4 hth5 hbk5 hbl5 hne5 hW5 hxt HA1 HD1 HW1 HW2
            go_upto_region 10 with (first | (rw [← hW4]; refine wpList_store_mid rfl 34 (.tmp 10) (.tmp 68) rfl u2.heap.size 0 #[.int .i64 k2, .string x2, .int .i64 n2, r2] rfl rfl HT5.out sizeTy' (by simp [Value.oneCell'] at hone2 ⊢; exact hone2) ?_; rw [HW5.out]) | fail)
            clear hW4 HT5 HW5
            go_wp2_with fail
            refine Calls.mono (show Calls _ _ _ _ _ from HAD.out) ?_
            rintro e u6 ⟨hb6, vb, zb, rfl, hsd⟩
            obtain ⟨k4, x4, n4, r4, rfl, hone4⟩ : ∃ k x n u, vb = .agg #[.int .i64 k, .string x, .int .i64 n, u] ∧ u.oneCell' = true := by
              rcases hsd with ⟨_, _, h1⟩ | ⟨_, _, _, h1⟩ | ⟨_, _, _, h1⟩
              · exact ⟨_, _, _, _, h1, rfl⟩
              · exact ⟨_, _, _, _, h1, rfl⟩
              · exact h1.val
            obtain ⟨W6, hW6⟩ : ∃ W6, W6 = u6.alloc (.cells #[.int .i64 0, .string ⟨#[]⟩, .int .i64 0, .slice none 0 0] 34) := ⟨_, rfl⟩
            have hb7 : Below u6.heap.size u6 W6 := by rw [hW6]; exact new_on' _ _
            have hx6 : W6.heap[u6.heap.size]? = some (.cells #[.int .i64 0, .string ⟨#[]⟩, .int .i64 0, .slice none 0 0] 34 (0, 0)) := by rw [hW6]; exact heap_alloc_new u6 _
            obtain ⟨W7, hW7, hth7, hbk7, hbl7, hne7⟩ := put4 (w := u6) (z := #[.int .i64 0, .string ⟨#[]⟩, .int .i64 0, .slice none 0 0]) (vs := #[.int .i64 k4, .string x4, .int .i64 n4, r4]) rfl hx6 hb7 (Nat.le_refl _)
            obtain ⟨hz, X, dd, hV2, hV4⟩ := ap_both (W7 := W7) HGD.out HFT.out HI1.out.1 HI1.out.2 HSP.out hsd (below_go HL5.out (below_go hb6 hbl7)) hbl7
            subst hz
            have HT7 := hideR hth7; have HW7 := hideR hW7; have HX7 := hideR hbk7
            have HB7 := hideR (below_go HB5.out (below_go hb6 hbl7))
            have HXU := hideR ((hbl7.block _ (Nat.lt_of_lt_of_le (Array.getElem?_eq_some_iff.1 HX5.out).1 hb6.size)).trans ((hb6.block _ (Array.getElem?_eq_some_iff.1 HX5.out).1).trans HX5.out))
            have HXT := hideR ((HB7.out.block _ (Array.getElem?_eq_some_iff.1 HX.out).1).trans HX.out)
            have HSM7 := hideR (fun (u9 : World) (hu : Below W7.heap.size W7 u9) => t_dSame0 (hV2.but (Abv.of hu)) (hV4.but (Abv.of hu)))
            have HCT := hideR (fun (u9 : World) (hu : Below W.heap.size W u9) => t_copied d u9 t _ (HTV.out.but (Abv.of hu)) HFT.out)
            have HDZ := hideR (fun (u9 : World) (hu : Below W.heap.size W u9) => d_Size d u9 t _ (HTV.out.but (Abv.of hu)))
            clear hb6 hsd hb7 hx6 hth7 hbk7 hbl7 hne7 hW7 hV2 hV4 HSP HAD HGD HX5 HL5 HB5 z0 z1 z2 z3
            generalize hcu : cnT (d + 1) 0 t = cu at *
            have HCU := hideR hcu
            clear hcu
            go_upto_region 11 with (first | (rw [← hW6]; refine wpList_store_mid rfl 34 (.tmp 12) (.tmp 74) rfl u6.heap.size 0 #[.int .i64 k4, .string x4, .int .i64 n4, r4] rfl rfl HT7.out sizeTy' (by simp [Value.oneCell'] at hone4 ⊢; exact hone4) ?_; rw [HW7.out]) | fail)
            clear hW6 HT7 HW7
            obtain ⟨TL, hTL⟩ : ∃ TL : List Value, TL = [.int .i64 za, .int .i64 za, .bool true, .bool true, .agg #[.int .i64 k2, .string x2, .int .i64 n2, r2], .agg #[.int .i64 k4, .string x4, .int .i64 n4, r4], .bool true, .bool true, .bool true, .agg #[.int .i64 k, .string x, .int .i64 n0, uT], undef, .int .i64 (cu : Int), .agg #[.int .i64 k, .string x, .int .i64 n0, uT], .int .i64 (cu : Int), .bool true, .bool true, .bool true, .bool true, .bool true] := ⟨_, rfl⟩
            have HTL := hideR hTL
            clear hTL
            refine Reg.wp_region_effh 19 (fun i => 76 + i) (fun _ u u' => Below u.heap.size u u') (fun u => Below W7.heap.size W7 u) (fun _ _ => True) (fun i v u => if i = 10 then ∃ d1, d ≤ d1 ∧ TyV 0 d1 u t v else v = TL.getD i undef) (by kernel_rfl) (by kernel_rfl) (fun i1 i2 h1 h2 h => by have h' : 76 + i1 = 76 + i2 := h; omega) (Reg.dst_okG (dst := fun i => 76 + i) (size := 95) (by kernel_rfl)) (fun i k v u u' _ _ _ _ h hb => by
              by_cases h3 : i = 10
              · rw [if_pos h3] at h ⊢; obtain ⟨d1, h0, h⟩ := h; exact ⟨d1, h0, h.but (Abv.of hb)⟩
              · rw [if_neg h3] at h ⊢; exact h) (fun _ _ _ _ _ _ _ _ _ => trivial) (fun k u u' _ hk hT => below_go hk hT) ?hs12 ?ht12 (below_drewN' W7 1) (fun _ _ => trivial)
            case hs12 =>
              intro i o' a9 u9 hi ho hF hB _ hd
              have f5 : a9.tmps[5]?.getD undef = .pointer (some ⟨w.heap.size, 0, none⟩) := Reg.ev_get (hF.eval 5 (fun i hi => by show 76 + i ≠ 5; omega))
              have f10 : a9.tmps[10]?.getD undef = .pointer (some ⟨u2.heap.size, 0, none⟩) := Reg.ev_get (hF.eval 10 (fun i hi => by show 76 + i ≠ 10; omega))
              have f12 : a9.tmps[12]?.getD undef = .pointer (some ⟨u6.heap.size, 0, none⟩) := Reg.ev_get (hF.eval 12 (fun i hi => by show 76 + i ≠ 12; omega))
              have f11 : a9.tmps[11]?.getD undef = .int .i64 za := Reg.ev_get (hF.eval 11 (fun i hi => by show 76 + i ≠ 11; omega))
              have f13 : a9.tmps[13]?.getD undef = .int .i64 za := Reg.ev_get (hF.eval 13 (fun i hi => by show 76 + i ≠ 13; omega))
              have hxa := (hB.block _ (Array.getElem?_eq_some_iff.1 HXU.out).1).trans HXU.out
              have hxb := (hB.block _ (Array.getElem?_eq_some_iff.1 HX7.out).1).trans HX7.out
              have hxc := (hB.block _ (Array.getElem?_eq_some_iff.1 HXT.out).1).trans HXT.out
              have c0 := put_cell hxa 0 _ rfl
              have c1 := put_cell hxa 1 _ rfl
              have c2 := put_cell hxa 2 _ rfl
              have c3 := put_cell hxa 3 _ rfl
              have b0 := put_cell hxb 0 _ rfl
              have b1 := put_cell hxb 1 _ rfl
              have b2 := put_cell hxb 2 _ rfl
              have b3 := put_cell hxb 3 _ rfl
              have t0 := put_cell hxc 0 _ rfl
              have t1 := put_cell hxc 1 _ rfl
              have t2 := put_cell hxc 2 _ rfl
              have t3 := put_cell hxc 3 _ rfl
              have HSM9 := hideR (HSM7.out u9 hB)
              have HCT9 := hideR (HCT.out u9 (below_go HB7.out hB))
              have HDZ9 := hideR (HDZ.out u9 (below_go HB7.out hB))
              have HWK := hideR (wakesC u9)
              have hd2 : ∀ j2 ∈ Reg.deps o', j2 ≠ 10 → a9.tmps[76 + j2]?.getD undef = TL.getD j2 undef := fun j2 hj2 h3 => by
                have h := hd j2 hj2
                rw [if_neg h3] at h
                exact Reg.ev_get h
              have hgt : ∀ j2, j2 ∈ Reg.deps o' → (j2 = 3 ∨ j2 = 8 ∨ j2 = 16) → a9.eval (.tmp (76 + j2)) = .bool true := fun j2 hj2 hc => by
                have h := hd j2 hj2
                rw [if_neg (by omega), HTL.out] at h
                rcases hc with rfl | rfl | rfl <;> exact h
              have hd10 : 10 ∈ Reg.deps o' → ∃ d1, d ≤ d1 ∧ TyV 0 d1 u9 t (a9.eval (.tmp 86)) := fun h5 => by
                have h := hd 10 h5
                rw [if_pos rfl] at h
                exact h
              have hTL := HTL.out
              subst hTL
              clear hd hxa hxb hxc
              rcases (by omega : (i ≠ 6 ∧ i ≠ 10 ∧ i ≠ 11 ∧ i ≠ 13 ∧ i ≠ 17) ∨ i = 6 ∨ i = 10 ∨ i = 11 ∨ i = 13 ∨ i = 17) with hn | rfl | rfl | rfl | rfl | rfl
              · clear hd10 HSM9 HCT9 HDZ9 HWK
                rcases (by omega : i = 0 ∨ i = 1 ∨ i = 2 ∨ i = 3 ∨ i = 4 ∨ i = 5 ∨ i = 7 ∨ i = 8 ∨ i = 9 ∨ i = 12 ∨ i = 14 ∨ i = 15 ∨ i = 16 ∨ i = 18) with rfl | rfl | rfl | rfl | rfl | rfl | rfl | rfl | rfl | rfl | rfl | rfl | rfl | rfl
                all_goals (
                  simp only [List.getElem?_toArray, List.getElem?_cons_succ, List.getElem?_cons_zero, Option.some.injEq] at ho
                  subst ho
                  refine ⟨?_, Reg.step_k fun Z9 hZ => ?_⟩
                  · first
                    | (simp [Region.wanted]; done)
                    | (rw [Reg.wants rfl rfl rfl (hgt 3 (by decide) (by decide))]; rfl)
                    | (rw [Reg.wants rfl rfl rfl (hgt 8 (by decide) (by decide))]; rfl)
                    | (rw [Reg.wants rfl rfl rfl (hgt 16 (by decide) (by decide))]; rfl)
                  · clear hgt hn
                    simp [Reg.deps, Region.binds] at hd2
                    go_simp
                    first
                    | exact hZ _ _ ⟨_, rfl, Below.refl _ _, rfl⟩
                    | exact hZ _ _ ⟨_, rfl, Below.refl _ _, by simp [*]⟩)
              all_goals (simp only [List.getElem?_toArray, List.getElem?_cons_succ, List.getElem?_cons_zero, Option.some.injEq] at ho; subst ho)
              · refine ⟨by rw [Reg.wants rfl rfl rfl (hgt 3 (by decide) (by decide))]; rfl, Reg.step_k fun Z9 hZ => ?_⟩
                clear hgt hd10
                simp [Reg.deps, Region.binds] at hd2
                go_simp
                refine Calls.mono (show Calls _ _ _ _ _ from HSM9.out) ?_
                rintro e w' ⟨rfl, h1⟩
                exact hZ _ _ ⟨_, rfl, h1, rfl⟩
              · refine ⟨by rw [Reg.wants rfl rfl rfl (hgt 8 (by decide) (by decide))]; rfl, Reg.step_k fun Z9 hZ => ?_⟩
                clear hgt hd10
                simp [Reg.deps, Region.binds] at hd2
                go_simp
                refine Calls.mono (show Calls _ _ _ _ _ from HCT9.out) ?_
                rintro e w' ⟨v9, rfl, h1, d9, h2⟩
                exact hZ _ _ ⟨_, rfl, h1, d + d9, Nat.le_add_right _ _, (h2.lo (Nat.zero_le _)).up (Nat.le_add_left _ _)⟩
              · obtain ⟨d9, hd9, h9⟩ := hd10 (by decide)
                obtain ⟨v9, hv9⟩ : ∃ v9, a9.eval (.tmp 86) = v9 := ⟨_, rfl⟩
                rw [hv9] at h9
                have f86 := Reg.ev_get hv9
                have hsz9 := t_Size d9 u9 t v9 h9
                rw [cn_few HFT.out hd9, HCU.out] at hsz9
                have HS9 := hideR hsz9
                refine ⟨by rw [Reg.wants rfl rfl rfl (hgt 8 (by decide) (by decide))]; rfl, Reg.step_k fun Z9 hZ => ?_⟩
                clear hgt hd10 hv9 h9 hsz9
                simp [Reg.deps, Region.binds] at hd2
                go_simp
                refine Calls.mono (show Calls _ _ _ _ _ from HS9.out) ?_
                rintro e w' ⟨rfl, h1⟩
                exact hZ _ _ ⟨_, rfl, h1, rfl⟩
              · refine ⟨by rw [Reg.wants rfl rfl rfl (hgt 8 (by decide) (by decide))]; rfl, Reg.step_k fun Z9 hZ => ?_⟩
                clear hgt hd10
                simp [Reg.deps, Region.binds] at hd2
                go_simp
                refine Calls.mono (show Calls _ _ _ _ _ from HDZ9.out) ?_
                rintro e w' ⟨rfl, h1⟩
                exact hZ _ _ ⟨_, rfl, h1, rfl⟩
              · refine ⟨by rw [Reg.wants rfl rfl rfl (hgt 16 (by decide) (by decide))]; rfl, Reg.step_k fun Z9 hZ => ?_⟩
                clear hgt hd10
                simp [Reg.deps, Region.binds] at hd2
                go_simp
                refine Calls.mono (show Calls _ _ _ _ _ from HWK.out) ?_
                rintro e w' ⟨rfl, h1⟩
                exact hZ _ _ ⟨_, rfl, h1, rfl⟩
            case ht12 =>
              intro a9 u9 hF hB hG
              obtain ⟨xl, hxl, rfl, hev⟩ := hF.lit (by simp)
              obtain ⟨a0, a1, a2, a3, a4, a5, a6, a7, a8, a9, b0, b1, b2, b3, b4, b5, b6, b7, b8, rfl⟩ := plen19 hxl
              have h18 := hG 18 (by decide)
              rw [if_neg (by decide), HTL.out] at h18
              obtain rfl : b8 = .bool true := (hev 18 (by decide)).symm.trans h18
              have HB9 := hideR (below_go HB.out (below_go HB7.out hB))
              clear hev hxl hF hG hB h18 HB7 HX7 HXU HXT HSM7 HCT HDZ HTL
              simp only [List.take_succ_cons, List.take_zero, List.drop_succ_cons, List.drop_zero, List.cons_append, List.nil_append]
              go_wp2
              go_ret
              exact ⟨rfl, HB9.out⟩
          · have q1 : decide ((i : Int) < (l.length : Int)) = false := decide_eq_false (by omega)
            clear HE
            have hx1 := (HW.out.block _ (Array.getElem?_eq_some_iff.1 HX.out).1).trans HX.out
            have z0 := put_cell hx1 0 _ rfl
            have z1 := put_cell hx1 1 _ rfl
            have z2 := put_cell hx1 2 _ rfl
            have z3 := put_cell hx1 3 _ rfl
            have HC1 := hideR (t_copied d wr t _ (HTV.out.but (Abv.of HW.out)) HFT.out)
            have hslr : ∀ k, S k → k < wr.heap.size := by obtain ⟨_, h9⟩ := HD.out; exact HSL.out _ _ _ wr HS.out h9
            clear hx1
            go_wp2_with fail
            refine Calls.mono (show Calls _ _ _ _ _ from HC1.out) ?_
            rintro e u1 ⟨v1, rfl, hb1, hty1⟩
            have hs1 := HS.out.bel hb1
            obtain ⟨q1', hq1, hI1⟩ := InX.of2 (S := S) hty1 (fun k hk hs => by have := hslr k hs; omega) HFT.out HSM.out.2
            have HA1 := hideR (t_ApplyP HM.out.1 u1 hs1 (fun k hk => Nat.lt_of_lt_of_le (hslr k hk) hb1.size) hI1)
            have HI1 := hideR (And.intro hq1 (fun (g : tkT n q1' t = true) => hI1.gp g))
            have HW1 := hideR (below_go HW.out hb1)
            have HGD := hideR hs1.gd
            have HD1 : Hid (∃ pr, DO S w3.heap.size n h r bs pr u1) := hideR (by
              obtain ⟨pr9, h9⟩ := HD.out
              exact ⟨pr9, h9.bel hb1⟩)
            clear hb1 hty1 hs1 hslr hq1 hI1 HC1 HS HD HW z0 z1 z2 z3
            go_wp2_with fail
            refine Calls.mono (show Calls _ _ _ _ _ from HA1.out) ?_
            rintro e u2 ⟨va, za, rfl, _, hk2, hsaid⟩
            have HW2 := hideR (hk2.bel HW1.out (fun k e => HLO.out k (HSD.out.2.2.1 k e)))
            obtain ⟨pr9, hd2⟩ : ∃ pr, DO S w3.heap.size n h r bs pr u2 := by
              obtain ⟨pr9, h9⟩ := HD1.out
              exact ⟨pr9, h9.kv hk2 HAP.out HSD.out.2.2.1⟩
            obtain ⟨k2, x2, n2, r2, rfl, hone2⟩ : ∃ k x n u, va = .agg #[.int .i64 k, .string x, .int .i64 n, u] ∧ u.oneCell' = true := by
              rcases hsaid with ⟨_, _, h1⟩ | ⟨_, _, _, h1⟩ | ⟨_, _, _, h1⟩
              · exact ⟨_, _, _, _, h1, rfl⟩
              · exact ⟨_, _, _, _, h1, rfl⟩
              · exact h1.val
            obtain ⟨W4, hW4⟩ : ∃ W4, W4 = u2.alloc (.cells #[.int .i64 0, .string ⟨#[]⟩, .int .i64 0, .slice none 0 0] 34) := ⟨_, rfl⟩
            have hb4 : Below u2.heap.size u2 W4 := by rw [hW4]; exact new_on' _ _
            have hx4 : W4.heap[u2.heap.size]? = some (.cells #[.int .i64 0, .string ⟨#[]⟩, .int .i64 0, .slice none 0 0] 34 (0, 0)) := by rw [hW4]; exact heap_alloc_new u2 _
            obtain ⟨W5, hW5, hth5, hbk5, hbl5, hne5⟩ := put4 (w := u2) (z := #[.int .i64 0, .string ⟨#[]⟩, .int .i64 0, .slice none 0 0]) (vs := #[.int .i64 k2, .string x2, .int .i64 n2, r2]) rfl hx4 hb4 (Nat.le_refl _)
            have HT5 := hideR hth5; have HW5 := hideR hW5; have HX5 := hideR hbk5
            have HB5 := hideR (below_go HW2.out hbl5)
            have HL5 := hideR hbl5
            have HAD := hideR (t_dApply HM.out.1 W5 (hd2.bel hbl5) (InX.low (S := S) HTV.out HB5.out (fun k hk hs => by have := HLO.out k hs; omega) HFT.out HSM.out.2))
            have HSP := hideR hsaid
            have hxt := (HB5.out.block _ (Array.getElem?_eq_some_iff.1 HX.out).1).trans HX.out
            have z0 := put_cell hxt 0 _ rfl
            have z1 := put_cell hxt 1 _ rfl
            have z2 := put_cell hxt 2 _ rfl
            have z3 := put_cell hxt 3 _ rfl
            clear hk2 hsaid hd2 hb4 hx4 hth5 hbk5 hbl5 hne5 hW5 hxt HA1 HD1 HW1 HW2
            go_upto_region 10 with (first | (rw [← hW4]; refine wpList_store_mid rfl 34 (.tmp 10) (.tmp 68) rfl u2.heap.size 0 #[.int .i64 k2, .string x2, .int .i64 n2, r2] rfl rfl HT5.out sizeTy' (by simp [Value.oneCell'] at hone2 ⊢; exact hone2) ?_; rw [HW5.out]) | fail)
            clear hW4 HT5 HW5
            go_wp2_with fail
            refine Calls.mono (show Calls _ _ _ _ _ from HAD.out) ?_
            rintro e u6 ⟨hb6, vb, zb, rfl, hsd⟩
            obtain ⟨k4, x4, n4, r4, rfl, hone4⟩ : ∃ k x n u, vb = .agg #[.int .i64 k, .string x, .int .i64 n, u] ∧ u.oneCell' = true := by
              rcases hsd with ⟨_, _, h1⟩ | ⟨_, _, _, h1⟩ | ⟨_, _, _, h1⟩
              · exact ⟨_, _, _, _, h1, rfl⟩
              · exact ⟨_, _, _, _, h1, rfl⟩
              · exact h1.val
            obtain ⟨W6, hW6⟩ : ∃ W6, W6 = u6.alloc (.cells #[.int .i64 0, .string ⟨#[]⟩, .int .i64 0, .slice none 0 0] 34) := ⟨_, rfl⟩
            have hb7 : Below u6.heap.size u6 W6 := by rw [hW6]; exact new_on' _ _
            have hx6 : W6.heap[u6.heap.size]? = some (.cells #[.int .i64 0, .string ⟨#[]⟩, .int .i64 0, .slice none 0 0] 34 (0, 0)) := by rw [hW6]; exact heap_alloc_new u6 _
            obtain ⟨W7, hW7, hth7, hbk7, hbl7, hne7⟩ := put4 (w := u6) (z := #[.int .i64 0, .string ⟨#[]⟩, .int .i64 0, .slice none 0 0]) (vs := #[.int .i64 k4, .string x4, .int .i64 n4, r4]) rfl hx6 hb7 (Nat.le_refl _)
            obtain ⟨hz, X, dd, hV2, hV4⟩ := ap_both (W7 := W7) HGD.out HFT.out HI1.out.1 HI1.out.2 HSP.out hsd (below_go HL5.out (below_go hb6 hbl7)) hbl7
            subst hz
            have HT7 := hideR hth7; have HW7 := hideR hW7; have HX7 := hideR hbk7
            have HB7 := hideR (below_go HB5.out (below_go hb6 hbl7))
            have HXU := hideR ((hbl7.block _ (Nat.lt_of_lt_of_le (Array.getElem?_eq_some_iff.1 HX5.out).1 hb6.size)).trans ((hb6.block _ (Array.getElem?_eq_some_iff.1 HX5.out).1).trans HX5.out))
            have HXT := hideR ((HB7.out.block _ (Array.getElem?_eq_some_iff.1 HX.out).1).trans HX.out)
            have HSM7 := hideR (fun (u9 : World) (hu : Below W7.heap.size W7 u9) => t_dSame0 (hV2.but (Abv.of hu)) (hV4.but (Abv.of hu)))
            have HCT := hideR (fun (u9 : World) (hu : Below W.heap.size W u9) => t_copied d u9 t _ (HTV.out.but (Abv.of hu)) HFT.out)
            have HDZ := hideR (fun (u9 : World) (hu : Below W.heap.size W u9) => d_Size d u9 t _ (HTV.out.but (Abv.of hu)))
            clear hb6 hsd hb7 hx6 hth7 hbk7 hbl7 hne7 hW7 hV2 hV4 HSP HAD HGD HX5 HL5 HB5 z0 z1 z2 z3
            generalize hcu : cnT (d + 1) 0 t = cu at *
            have HCU := hideR hcu
            clear hcu
            go_upto_region 11 with (first | (rw [← hW6]; refine wpList_store_mid rfl 34 (.tmp 12) (.tmp 74) rfl u6.heap.size 0 #[.int .i64 k4, .string x4, .int .i64 n4, r4] rfl rfl HT7.out sizeTy' (by simp [Value.oneCell'] at hone4 ⊢; exact hone4) ?_; rw [HW7.out]) | fail)
            clear hW6 HT7 HW7
            obtain ⟨TL, hTL⟩ : ∃ TL : List Value, TL = [.int .i64 za, .int .i64 za, .bool true, .bool true, .agg #[.int .i64 k2, .string x2, .int .i64 n2, r2], .agg #[.int .i64 k4, .string x4, .int .i64 n4, r4], .bool true, .bool true, .bool true, .agg #[.int .i64 k, .string x, .int .i64 n0, uT], undef, .int .i64 (cu : Int), .agg #[.int .i64 k, .string x, .int .i64 n0, uT], .int .i64 (cu : Int), .bool true, .bool true, .bool true, .bool true, .bool true] := ⟨_, rfl⟩
            have HTL := hideR hTL
            clear hTL
            refine Reg.wp_region_effh 19 (fun i => 76 + i) (fun _ u u' => Below u.heap.size u u') (fun u => Below W7.heap.size W7 u) (fun _ _ => True) (fun i v u => if i = 10 then ∃ d1, d ≤ d1 ∧ TyV 0 d1 u t v else v = TL.getD i undef) (by kernel_rfl) (by kernel_rfl) (fun i1 i2 h1 h2 h => by have h' : 76 + i1 = 76 + i2 := h; omega) (Reg.dst_okG (dst := fun i => 76 + i) (size := 95) (by kernel_rfl)) (fun i k v u u' _ _ _ _ h hb => by
              by_cases h3 : i = 10
              · rw [if_pos h3] at h ⊢; obtain ⟨d1, h0, h⟩ := h; exact ⟨d1, h0, h.but (Abv.of hb)⟩
              · rw [if_neg h3] at h ⊢; exact h) (fun _ _ _ _ _ _ _ _ _ => trivial) (fun k u u' _ hk hT => below_go hk hT) ?hs12 ?ht12 (below_drewN' W7 1) (fun _ _ => trivial)
            case hs12 =>
              intro i o' a9 u9 hi ho hF hB _ hd
              have f5 : a9.tmps[5]?.getD undef = .pointer (some ⟨w.heap.size, 0, none⟩) := Reg.ev_get (hF.eval 5 (fun i hi => by show 76 + i ≠ 5; omega))
              have f10 : a9.tmps[10]?.getD undef = .pointer (some ⟨u2.heap.size, 0, none⟩) := Reg.ev_get (hF.eval 10 (fun i hi => by show 76 + i ≠ 10; omega))
              have f12 : a9.tmps[12]?.getD undef = .pointer (some ⟨u6.heap.size, 0, none⟩) := Reg.ev_get (hF.eval 12 (fun i hi => by show 76 + i ≠ 12; omega))
              have f11 : a9.tmps[11]?.getD undef = .int .i64 za := Reg.ev_get (hF.eval 11 (fun i hi => by show 76 + i ≠ 11; omega))
              have f13 : a9.tmps[13]?.getD undef = .int .i64 za := Reg.ev_get (hF.eval 13 (fun i hi => by show 76 + i ≠ 13; omega))
              have hxa := (hB.block _ (Array.getElem?_eq_some_iff.1 HXU.out).1).trans HXU.out
              have hxb := (hB.block _ (Array.getElem?_eq_some_iff.1 HX7.out).1).trans HX7.out
              have hxc := (hB.block _ (Array.getElem?_eq_some_iff.1 HXT.out).1).trans HXT.out
              have c0 := put_cell hxa 0 _ rfl
              have c1 := put_cell hxa 1 _ rfl
              have c2 := put_cell hxa 2 _ rfl
              have c3 := put_cell hxa 3 _ rfl
              have b0 := put_cell hxb 0 _ rfl
              have b1 := put_cell hxb 1 _ rfl
              have b2 := put_cell hxb 2 _ rfl
              have b3 := put_cell hxb 3 _ rfl
              have t0 := put_cell hxc 0 _ rfl
              have t1 := put_cell hxc 1 _ rfl
              have t2 := put_cell hxc 2 _ rfl
              have t3 := put_cell hxc 3 _ rfl
              have HSM9 := hideR (HSM7.out u9 hB)
              have HCT9 := hideR (HCT.out u9 (below_go HB7.out hB))
              have HDZ9 := hideR (HDZ.out u9 (below_go HB7.out hB))
              have HWK := hideR (wakesC u9)
              have hd2 : ∀ j2 ∈ Reg.deps o', j2 ≠ 10 → a9.tmps[76 + j2]?.getD undef = TL.getD j2 undef := fun j2 hj2 h3 => by
                have h := hd j2 hj2
                rw [if_neg h3] at h
                exact Reg.ev_get h
              have hgt : ∀ j2, j2 ∈ Reg.deps o' → (j2 = 3 ∨ j2 = 8 ∨ j2 = 16) → a9.eval (.tmp (76 + j2)) = .bool true := fun j2 hj2 hc => by
                have h := hd j2 hj2
                rw [if_neg (by omega), HTL.out] at h
                rcases hc with rfl | rfl | rfl <;> exact h
              have hd10 : 10 ∈ Reg.deps o' → ∃ d1, d ≤ d1 ∧ TyV 0 d1 u9 t (a9.eval (.tmp 86)) := fun h5 => by
                have h := hd 10 h5
                rw [if_pos rfl] at h
                exact h
              have hTL := HTL.out
              subst hTL
              clear hd hxa hxb hxc
              rcases (by omega : (i ≠ 6 ∧ i ≠ 10 ∧ i ≠ 11 ∧ i ≠ 13 ∧ i ≠ 17) ∨ i = 6 ∨ i = 10 ∨ i = 11 ∨ i = 13 ∨ i = 17) with hn | rfl | rfl | rfl | rfl | rfl
              · clear hd10 HSM9 HCT9 HDZ9 HWK
                rcases (by omega : i = 0 ∨ i = 1 ∨ i = 2 ∨ i = 3 ∨ i = 4 ∨ i = 5 ∨ i = 7 ∨ i = 8 ∨ i = 9 ∨ i = 12 ∨ i = 14 ∨ i = 15 ∨ i = 16 ∨ i = 18) with rfl | rfl | rfl | rfl | rfl | rfl | rfl | rfl | rfl | rfl | rfl | rfl | rfl | rfl
                all_goals (
                  simp only [List.getElem?_toArray, List.getElem?_cons_succ, List.getElem?_cons_zero, Option.some.injEq] at ho
                  subst ho
                  refine ⟨?_, Reg.step_k fun Z9 hZ => ?_⟩
                  · first
                    | (simp [Region.wanted]; done)
                    | (rw [Reg.wants rfl rfl rfl (hgt 3 (by decide) (by decide))]; rfl)
                    | (rw [Reg.wants rfl rfl rfl (hgt 8 (by decide) (by decide))]; rfl)
                    | (rw [Reg.wants rfl rfl rfl (hgt 16 (by decide) (by decide))]; rfl)
                  · clear hgt hn
                    simp [Reg.deps, Region.binds] at hd2
                    go_simp
                    first
                    | exact hZ _ _ ⟨_, rfl, Below.refl _ _, rfl⟩
                    | exact hZ _ _ ⟨_, rfl, Below.refl _ _, by simp [*]⟩)
              all_goals (simp only [List.getElem?_toArray, List.getElem?_cons_succ, List.getElem?_cons_zero, Option.some.injEq] at ho; subst ho)
              · refine ⟨by rw [Reg.wants rfl rfl rfl (hgt 3 (by decide) (by decide))]; rfl, Reg.step_k fun Z9 hZ => ?_⟩
                clear hgt hd10
                simp [Reg.deps, Region.binds] at hd2
                go_simp
                refine Calls.mono (show Calls _ _ _ _ _ from HSM9.out) ?_
                rintro e w' ⟨rfl, h1⟩
                exact hZ _ _ ⟨_, rfl, h1, rfl⟩
              · refine ⟨by rw [Reg.wants rfl rfl rfl (hgt 8 (by decide) (by decide))]; rfl, Reg.step_k fun Z9 hZ => ?_⟩
                clear hgt hd10
                simp [Reg.deps, Region.binds] at hd2
                go_simp
                refine Calls.mono (show Calls _ _ _ _ _ from HCT9.out) ?_
                rintro e w' ⟨v9, rfl, h1, d9, h2⟩
                exact hZ _ _ ⟨_, rfl, h1, d + d9, Nat.le_add_right _ _, (h2.lo (Nat.zero_le _)).up (Nat.le_add_left _ _)⟩
              · obtain ⟨d9, hd9, h9⟩ := hd10 (by decide)
                obtain ⟨v9, hv9⟩ : ∃ v9, a9.eval (.tmp 86) = v9 := ⟨_, rfl⟩
                rw [hv9] at h9
                have f86 := Reg.ev_get hv9
                have hsz9 := t_Size d9 u9 t v9 h9
                rw [cn_few HFT.out hd9, HCU.out] at hsz9
                have HS9 := hideR hsz9
                refine ⟨by rw [Reg.wants rfl rfl rfl (hgt 8 (by decide) (by decide))]; rfl, Reg.step_k fun Z9 hZ => ?_⟩
                clear hgt hd10 hv9 h9 hsz9
                simp [Reg.deps, Region.binds] at hd2
                go_simp
                refine Calls.mono (show Calls _ _ _ _ _ from HS9.out) ?_
                rintro e w' ⟨rfl, h1⟩
                exact hZ _ _ ⟨_, rfl, h1, rfl⟩
              · refine ⟨by rw [Reg.wants rfl rfl rfl (hgt 8 (by decide) (by decide))]; rfl, Reg.step_k fun Z9 hZ => ?_⟩
                clear hgt hd10
                simp [Reg.deps, Region.binds] at hd2
                go_simp
                refine Calls.mono (show Calls _ _ _ _ _ from HDZ9.out) ?_
                rintro e w' ⟨rfl, h1⟩
                exact hZ _ _ ⟨_, rfl, h1, rfl⟩
              · refine ⟨by rw [Reg.wants rfl rfl rfl (hgt 16 (by decide) (by decide))]; rfl, Reg.step_k fun Z9 hZ => ?_⟩
                clear hgt hd10
                simp [Reg.deps, Region.binds] at hd2
                go_simp
                refine Calls.mono (show Calls _ _ _ _ _ from HWK.out) ?_
                rintro e w' ⟨rfl, h1⟩
                exact hZ _ _ ⟨_, rfl, h1, rfl⟩
            case ht12 =>
              intro a9 u9 hF hB hG
              obtain ⟨xl, hxl, rfl, hev⟩ := hF.lit (by simp)
              obtain ⟨a0, a1, a2, a3, a4, a5, a6, a7, a8, a9, b0, b1, b2, b3, b4, b5, b6, b7, b8, rfl⟩ := plen19 hxl
              have h18 := hG 18 (by decide)
              rw [if_neg (by decide), HTL.out] at h18
              obtain rfl : b8 = .bool true := (hev 18 (by decide)).symm.trans h18
              have HB9 := hideR (below_go HB.out (below_go HB7.out hB))
              clear hev hxl hF hG hB h18 HB7 HX7 HXU HXT HSM7 HCT HDZ HTL
              simp only [List.take_succ_cons, List.take_zero, List.drop_succ_cons, List.drop_zero, List.cons_append, List.nil_append]
              go_wp2
              go_ret
              exact ⟨rfl, HB9.out⟩
namespace Ty
end Ty
end Go.Proofs.Ytkflfohoinbenaa
