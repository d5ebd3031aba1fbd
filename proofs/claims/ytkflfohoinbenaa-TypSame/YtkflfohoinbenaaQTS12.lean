/- Texts that the claim needs. -/
import Derived.Test.YtkflfohoinbenaaQTS11
namespace Go.Proofs.Ytkflfohoinbenaa
open Go.RowKit Lx Pz Rep Ty
set_option linter.unusedVariables false
set_option maxRecDepth 100000
set_option maxHeartbeats 16000000
theorem sameC (N dl d : Nat) (l : List (Value × Value)) (A B vl : Value) (ka na kb nb : Int) (xa xb : ByteArray) (ua ub : Value) (w : World) (hN : N ≤ 255) (hl : Row 8 (PrC w dl) vl l) (hA : TyV 0 d w A (.agg #[.int .i64 ka, .string xa, .int .i64 na, ua])) (hB : TyV 0 d w B (.agg #[.int .i64 kb, .string xb, .int .i64 nb, ub])) (hsl : ∀ x ∈ l, (∀ e, smT e x.1) ∧ ∀ e, smT e x.2) (hsA : ∀ e, smT e A) (hsB : ∀ e, smT e B) : Calls Try.prog 6 #[.int .u8 (N : Int), vl, .agg #[.int .i64 ka, .string xa, .int .i64 na, ua, .int .i64 kb, .string xb, .int .i64 nb, ub]] w fun e w' => e = .returned (.bool true) ∧ Below w.heap.size w w' := by
  obtain ⟨m, hm⟩ : ∃ m, 1025 ≤ m := ⟨1025, Nat.le_refl _⟩
  obtain ⟨f, hf⟩ : ∃ f, 65537 ≤ f := ⟨65537, Nat.le_refl _⟩
  obtain ⟨oR, cR, rfl, hel⟩ := row_at hl
  have hoa : ua.oneCell' = true := by obtain ⟨_, _, _, _, u, _, h1, hr⟩ := hA; obtain ⟨o1, c1, h2⟩ := row_at hr; injection h1 with h1; simp only [Array.mk.injEq, List.cons.injEq, and_true] at h1; rw [h1.2.2.2, h2.1]; rfl
  have hob : ub.oneCell' = true := by obtain ⟨_, _, _, _, u, _, h1, hr⟩ := hB; obtain ⟨o1, c1, h2⟩ := row_at hr; injection h1 with h1; simp only [Array.mk.injEq, List.cons.injEq, and_true] at h1; rw [h1.2.2.2, h2.1]; rfl
  obtain ⟨W, hW⟩ : ∃ W, W = w.alloc (.cells #[.int .i64 ka, .string xa, .int .i64 na, ua, .int .i64 kb, .string xb, .int .i64 nb, ub] 37) := ⟨_, rfl⟩
  have hb : Below w.heap.size w W := by rw [hW]; exact new_on' _ _
  have hx : W.heap[w.heap.size]? = some (.cells #[.int .i64 ka, .string xa, .int .i64 na, ua, .int .i64 kb, .string xb, .int .i64 nb, ub] 37 (0, 0)) := by rw [hW]; exact heap_alloc_new w _
  have HLG := hideR (t_large dl W l _ (hl.imp fun b o x _ h => h.on hb))
  have HVA := hideR (hA.but (Abv.of hb))
  have HVB := hideR (hB.but (Abv.of hb))
  have HLX := hideR (fun (u : World) (hu : Below W.heap.size W u) => (by
    have hn := new_on' u (.cells #[.int .i64 ka, .string xa, .int .i64 na, ua, .int .i64 kb, .string xb, .int .i64 nb, ub] 37)
    have hc := heap_alloc_new u (.cells #[.int .i64 ka, .string xa, .int .i64 na, ua, .int .i64 kb, .string xb, .int .i64 nb, ub] 37)
    have hb9 := below_go hb (below_go hu hn)
    exact t_large d (u.alloc (.cells #[.int .i64 ka, .string xa, .int .i64 na, ua, .int .i64 kb, .string xb, .int .i64 nb, ub] 37)) [(A, B)] (.slice (some ⟨u.heap.size, 0, none⟩) 1 1) (row_pair ⟨TyV.cells hA hb9 (fun j x hj => by
      rw [Nat.zero_add]
      refine put_cell hc j x ?_
      have h4 : j < 4 := (Array.getElem?_eq_some_iff.1 hj).1
      rcases (by omega : j = 0 ∨ j = 1 ∨ j = 2 ∨ j = 3) with rfl | rfl | rfl | rfl <;> exact hj), TyV.cells hB hb9 (fun j x hj => by
      rw [Nat.zero_add]
      refine put_cell hc (4 + j) x ?_
      have h4 : j < 4 := (Array.getElem?_eq_some_iff.1 hj).1
      rcases (by omega : j = 0 ∨ j = 1 ∨ j = 2 ∨ j = 3) with rfl | rfl | rfl | rfl <;> exact hj)⟩) : Calls Try.prog 9 #[.slice (some ⟨u.heap.size, 0, none⟩) 1 1] (u.alloc (.cells #[.int .i64 ka, .string xa, .int .i64 na, ua, .int .i64 kb, .string xb, .int .i64 nb, ub] 37)) fun e w' => ∃ b : Bool, e = .returned (.bool b) ∧ Below (u.alloc (.cells #[.int .i64 ka, .string xa, .int .i64 na, ua, .int .i64 kb, .string xb, .int .i64 nb, ub] 37)).heap.size (u.alloc (.cells #[.int .i64 ka, .string xa, .int .i64 na, ua, .int .i64 kb, .string xb, .int .i64 nb, ub] 37)) w' ∧ (b = false → ∀ i x, i < 12 → [(A, B)][i]? = some x → few d x.1 ∧ few d x.2)))
  have HEL := hideR (fun i x (hi : l[i]? = some x) => (by
    obtain ⟨b1, off, ho, hc⟩ := hel i x hi
    exact ⟨b1, off, ho, hc.on hb⟩ : ∃ b1 off, oR = some ⟨b1, off, none⟩ ∧ PrC W dl b1 (off + i * 8) x))
  have HSM := hideR (And.intro hsl (And.intro hsA hsB))
  have HM := hideR (And.intro hm hf)
  have HB := hideR hb
  have HX := hideR hx
  have HNN := hideR hN
  have HLN := hideR hl.1
  clear hl hel hA hB hb hx hN hm hf hsl hsA hsB
  go_enter Try.func6, Try.ntmps6
  go_upto_region 1 with fail
  rw [← hW]
  clear hW
  go_wp2_with fail
  refine Calls.mono (show Calls _ _ _ _ _ from HLG.out) ?_
  rintro e w1 ⟨b, rfl, hb1, hfl⟩
  have HB1 := hideR hb1
  clear hb1 HLG
  cases b with
  | true =>
    clear hfl
    have HWK := hideR (wakesC w1)
    go_wp2_with fail
    refine Calls.mono (show Calls _ _ _ _ _ from HWK.out) ?_
    rintro e w2 ⟨rfl, hb2⟩
    have HB2 := hideR (below_go HB.out (below_go HB1.out hb2))
    clear hb2 HWK
    go_wp2
    go_ret
    exact ⟨rfl, HB2.out⟩
  | false =>
    have HFL := hideR (hfl rfl)
    have HLX1 := hideR (HLX.out w1 HB1.out)
    have hx1 := (HB1.out.block _ (Array.getElem?_eq_some_iff.1 HX.out).1).trans HX.out
    have z0 := put_cell hx1 0 _ rfl
    have z1 := put_cell hx1 1 _ rfl
    have z2 := put_cell hx1 2 _ rfl
    have z3 := put_cell hx1 3 _ rfl
    have z4 := put_cell hx1 4 _ rfl
    have z5 := put_cell hx1 5 _ rfl
    have z6 := put_cell hx1 6 _ rfl
    have z7 := put_cell hx1 7 _ rfl
    have HNW := hideR (new_on' w1 (.cells #[.int .i64 ka, .string xa, .int .i64 na, ua, .int .i64 kb, .string xb, .int .i64 nb, ub] 37))
    clear hfl hx1 HLX
    go_wp2_with fail
    refine Calls.mono (show Calls _ _ _ _ _ from HLX1.out) ?_
    rintro e w2 ⟨b, rfl, hb2, hft⟩
    have HB2 := hideR (below_go HB1.out (below_go HNW.out hb2))
    clear hb2 HLX1 HB1 HNW z0 z1 z2 z3 z4 z5 z6 z7
    cases b with
    | true =>
      clear hft
      have HWK := hideR (wakesC w2)
      go_wp2_with fail
      refine Calls.mono (show Calls _ _ _ _ _ from HWK.out) ?_
      rintro e w3 ⟨rfl, hb3⟩
      have HB3 := hideR (below_go HB.out (below_go HB2.out hb3))
      clear hb3 HWK
      go_wp2
      go_ret
      exact ⟨rfl, HB3.out⟩
    | false =>
      have HFT := hideR (hft rfl 0 (A, B) (by decide) rfl)
      have HFW := hideR (t_few w2 N HNN.out)
      clear hft
      go_wp2_with fail
      refine Calls.mono (show Calls _ _ _ _ _ from HFW.out) ?_
      rintro e w3 ⟨rfl, hb3⟩
      have HB3 := hideR (below_go HB2.out hb3)
      have HBT := hideR (t_both w3 (N % 12 + 1) (by omega))
      obtain ⟨n, hn⟩ : ∃ n, n = N % 12 + 1 := ⟨_, rfl⟩
      have HBU := hideR (fun (u : World) => t_both u n (by omega))
      clear hb3 HFW HB2
      rw [← hn] at HBT
      rw [← hn]
      clear hn
      go_wp2_with fail
      refine Calls.mono (show Calls _ _ _ _ _ from HBT.out) ?_
      rintro e w4 ⟨p, r1, xs1, vs, bs1, rfl, hb4, hbo⟩
      have HB4 := hideR (below_go HB3.out hb4)
      have HBO := hideR hbo
      have HW34 := hideR hb4
      have HBU4 := hideR (HBU.out w4)
      clear hb4 hbo HBT HBU
      go_wp2_with fail
      refine Calls.mono (show Calls _ _ _ _ _ from HBU4.out) ?_
      rintro e w5 ⟨q, r2, xs2, vq, bs2, rfl, hb5, hbq⟩
      have hp4 := HBO.out.sv.lt
      have hv4 : ∀ k, vs.ownBlock = some k → w3.heap.size ≤ k ∧ k < w4.heap.size := by obtain ⟨ys, ho, _⟩ := HBO.out.sv.row; exact ho.lt
      have hv5 : ∀ k, vq.ownBlock = some k → w4.heap.size ≤ k ∧ k < w5.heap.size := by obtain ⟨ys, ho, _⟩ := hbq.sv.row; exact ho.lt
      have hql := hbq.lo
      have hpl := HBO.out.lo
      have hqs := hbq.sv.lt
      have h34 : w3.heap.size ≤ w4.heap.size := by omega
      have hWs := HB3.out.size
      have HAP : Hid (Apt p q vs vq) := hideR ⟨by omega, fun e => by have := hv4 _ e; omega, fun e => by have := hv5 _ e; omega, fun k e e2 => by have := hv4 k e; have := hv5 k e2; omega⟩
      have HAQ : Hid (Apt q p vq vs) := hideR ⟨by omega, fun e => by have := hv5 _ e; omega, fun e => by have := hv4 _ e; omega, fun k e e2 => by have := hv4 k e2; have := hv5 k e; omega⟩
      have HLO := hideR (show ∀ k, SB p q vs vq k → W.heap.size ≤ k from fun k hk => by
        rcases hk with rfl | rfl | hk | hk
        · omega
        · omega
        · have := (hv4 k hk).1; omega
        · have := (hv5 k hk).1; omega)
      have HS4 : Hid (SO (SB p q vs vq) w3.heap.size n vr p vs w5) := hideR ((SO.newS HBO.out.sv (.inl rfl) (fun k e => .inr (.inr (.inl e)))).bel hb5)
      have HQ4 : Hid (SO (SB p q vs vq) w4.heap.size n vr q vq w5) := hideR (SO.newS hbq.sv (.inr (.inl rfl)) (fun k e => .inr (.inr (.inr e))))
      have HB5 := hideR (below_go HB4.out hb5)
      obtain ⟨S, hSd⟩ : ∃ S, S = SB p q vs vq := ⟨_, rfl⟩
      rw [← hSd] at HLO HS4 HQ4
      have HSD : Hid (S p ∧ S q ∧ (∀ k, vs.ownBlock = some k → S k) ∧ ∀ k, vq.ownBlock = some k → S k) := hideR (by rw [hSd]; exact ⟨.inl rfl, .inr (.inl rfl), fun k e => .inr (.inr (.inl e)), fun k e => .inr (.inr (.inr e))⟩)
      have HSL : Hid (∀ (h h' : Nat → Value) (u : World), SO S w3.heap.size n h p vs u → SO S w4.heap.size n h' q vq u → ∀ k, S k → k < u.heap.size) := hideR (by
        intro h h' u h1 h2 k hk
        rw [hSd] at hk
        rcases hk with rfl | rfl | hk | hk
        · exact h1.lt.1
        · exact h2.lt.1
        · exact h1.lt.2 k hk
        · exact h2.lt.2 k hk)
      have HA4 : Hid (AC n vr) := hideR (AC.new n)
      clear hb5 hbq hp4 hv4 hv5 hql hpl hqs h34 hWs hSd HBO HW34 HBU4 HB3 HB4
      go_wp2_with fail
      go_loopw [12] (fun aa wr => ∃ (i : Nat) (h : Nat → Value), aa = .int .i64 i ∧ i ≤ l.length ∧ i ≤ 12 ∧ Hid (SO S w3.heap.size n h p vs wr) ∧ Hid (SO S w4.heap.size n h q vq wr) ∧ Hid (AC n h) ∧ Hid (Below W.heap.size W wr)) (fun aa _ => match aa with | .int _ i => l.length - i.toNat | _ => 0)
      case atStart => exact ⟨0, vr, rfl, Nat.zero_le _, Nat.zero_le _, HS4, HQ4, HA4, HB5⟩
      case round =>
        obtain ⟨i, h, rfl, hi, hi2, HS, HQ, HAC, HW⟩ := hrel
        clear HS4 HQ4 HA4 HB5
        by_cases hp : i < l.length ∧ i < 12
        · have q1 : decide ((i : Int) < (l.length : Int)) = true := decide_eq_true (by omega)
          have q2 : decide ((i : Int) < 12) = true := decide_eq_true (by omega)
          have hw2 : wrap64 ((i : Int) + 1) = ((i + 1 : Nat) : Int) := by unfold wrap64; omega
          obtain ⟨pr, hpr⟩ : ∃ pr, l[i]? = some pr := ⟨_, List.getElem?_eq_getElem hp.1⟩
          obtain ⟨b1, off, hoR, hCW⟩ := HEL.out i pr hpr
          subst hoR
          obtain ⟨k1, x1, n1, u1, c0, c1, c2, c3, hV1⟩ := tyC_val hCW.1
          obtain ⟨k2, x2, n2, u2, e0', e1', e2', e3', hV2⟩ := tyC_val hCW.2
          obtain ⟨hf1, hf2⟩ := HFL.out i pr hp.2 hpr
          have HG := hideR (And.intro c0 (And.intro c1 (And.intro c2 (And.intro c3 (And.intro e0' (And.intro e1' (And.intro e2' e3')))))))
          have HSX := hideR (HSM.out.1 pr (List.mem_of_getElem? hpr))
          have HFF := hideR (And.intro hf1 hf2)
          have HV := hideR (And.intro hV1 hV2)
          have HC1 := hideR (fun (u9 : World) (hu : Below wr.heap.size wr u9) => t_copied dl u9 pr.1 _ ((hV1.but (Abv.of HW.out)).but (Abv.of hu)) hf1)
          have HC2 := hideR (fun (u9 : World) (hu : Below wr.heap.size wr u9) => t_copied dl u9 pr.2 _ ((hV2.but (Abv.of HW.out)).but (Abv.of hu)) hf2)
          have HGD := hideR HS.out.gd
          clear c0 c1 c2 c3 e0' e1' e2' e3' hV1 hV2 hf1 hf2 hCW hpr
          go_upto_region 9 with fail
          obtain ⟨TL, hTL⟩ : ∃ TL : List Value, TL = [.pointer (some ⟨p, 0, none⟩), .slice (some ⟨b1, off, none⟩) l.length cR, .int .i64 i, .pointer (some ⟨b1, off + i * 8, none⟩), .pointer (some ⟨b1, off + i * 8, none⟩), .agg #[.int .i64 k1, .string x1, .int .i64 n1, u1], undef, .slice (some ⟨b1, off, none⟩) l.length cR, .int .i64 i, .pointer (some ⟨b1, off + i * 8, none⟩), .pointer (some ⟨b1, off + i * 8 + 4, none⟩), .agg #[.int .i64 k2, .string x2, .int .i64 n2, u2], undef] := ⟨_, rfl⟩
          have HTL := hideR hTL
          clear hTL
          refine Reg.wp_region_two 13 (fun j => 54 + j) (fun j v u => if j = 6 then tyO wr.heap.size pr.1 v u else if j = 12 then tyO wr.heap.size pr.2 v u else v = TL.getD j undef) (by kernel_rfl) (by kernel_rfl) (fun i1 i2 h1 h2 h => by have h' : 54 + i1 = 54 + i2 := h; omega) (Reg.dst_ok (dst := fun j => 54 + j) (size := 183) (by kernel_rfl)) (fun j v u u' _ h hb => by
              by_cases h3 : j = 6
              · rw [if_pos h3] at h ⊢; exact h.on (Abv.lo (Abv.of hb) (Nat.zero_le _)) (Nat.le_refl _)
              · rw [if_neg h3] at h ⊢
                by_cases h5 : j = 12
                · rw [if_pos h5] at h ⊢; exact h.on (Abv.lo (Abv.of hb) (Nat.zero_le _)) (Nat.le_refl _)
                · rw [if_neg h5] at h ⊢; exact h) ?hs1 ?ht1
          case hs1 =>
            intro j o' a9 u9 hj ho hF hB hd
            have f1 : a9.tmps[1]?.getD undef = .slice (some ⟨b1, off, none⟩) l.length cR := Reg.ev_get (hF.eval 1 (fun i hi => by show 54 + i ≠ 1; omega))
            have f8 : a9.tmps[8]?.getD undef = .pointer (some ⟨p, 0, none⟩) := Reg.ev_get (hF.eval 8 (fun i hi => by show 54 + i ≠ 8; omega))
            have f12 : a9.tmps[12]?.getD undef = .int .i64 (i : Int) := Reg.ev_get (hF.eval 12 (fun i hi => by show 54 + i ≠ 12; omega))
            obtain ⟨g0, g1, g2, g3, l0, l1, l2, l3⟩ := HG.out
            have hBW := below_go HW.out hB
            have g0 := cell_on hBW g0
            have g1 := cell_on hBW g1
            have g2 := cell_on hBW g2
            have g3 := cell_on hBW g3
            have l0 := cell_on hBW l0
            have l1 := cell_on hBW l1
            have l2 := cell_on hBW l2
            have l3 := cell_on hBW l3
            clear hBW
            have HCA := hideR (HC1.out u9 hB)
            have HCB := hideR (HC2.out u9 hB)
            have hsz := hB.size
            have hd2 : ∀ j2 ∈ Reg.deps o', j2 ≠ 6 → j2 ≠ 12 → a9.tmps[54 + j2]?.getD undef = TL.getD j2 undef := fun j2 hj2 h3 h5 => by
              have h := hd j2 hj2
              rw [if_neg h3, if_neg h5] at h
              exact Reg.ev_get h
            have hTL := HTL.out
            subst hTL
            clear hd
            rcases (by omega : j = 6 ∨ j = 12 ∨ (j ≠ 6 ∧ j ≠ 12)) with rfl | rfl | hn6
            · simp only [List.getElem?_toArray, List.getElem?_cons_succ, List.getElem?_cons_zero, Option.some.injEq] at ho
              subst ho
              refine Reg.step_k fun Z9 hZ => ?_
              simp [Reg.deps, Region.binds] at hd2
              go_simp
              refine Calls.mono (show Calls _ _ _ _ _ from HCA.out) ?_
              rintro e w' ⟨v9, rfl, h1, h2⟩
              exact hZ _ _ ⟨_, rfl, h1, h2.on (fun _ _ _ => rfl) hsz⟩
            · simp only [List.getElem?_toArray, List.getElem?_cons_succ, List.getElem?_cons_zero, Option.some.injEq] at ho
              subst ho
              refine Reg.step_k fun Z9 hZ => ?_
              simp [Reg.deps, Region.binds] at hd2
              go_simp
              refine Calls.mono (show Calls _ _ _ _ _ from HCB.out) ?_
              rintro e w' ⟨v9, rfl, h1, h2⟩
              exact hZ _ _ ⟨_, rfl, h1, h2.on (fun _ _ _ => rfl) hsz⟩
            · clear HCA HCB
              rcases (by omega : j = 0 ∨ j = 1 ∨ j = 2 ∨ j = 3 ∨ j = 4 ∨ j = 5 ∨ j = 6 ∨ j = 7 ∨ j = 8 ∨ j = 9 ∨ j = 10 ∨ j = 11 ∨ j = 12) with rfl | rfl | rfl | rfl | rfl | rfl | rfl | rfl | rfl | rfl | rfl | rfl | rfl
              all_goals (
                simp only [List.getElem?_toArray, List.getElem?_cons_succ, List.getElem?_cons_zero, Option.some.injEq] at ho
                subst ho
                first
                | exact absurd rfl hn6.1
                | exact absurd rfl hn6.2
                | (refine Reg.step_k fun Z9 hZ => ?_
                   clear hn6
                   simp [Reg.deps, Region.binds] at hd2
                   go_simp
                   first
                   | exact hZ _ _ ⟨_, rfl, Below.refl _ _, rfl⟩
                   | exact hZ _ _ ⟨_, rfl, Below.refl _ _, by simp [*]⟩))
          case ht1 =>
            intro a9 u9 hF hB hG
            obtain ⟨xl, hxl, rfl, hev⟩ := hF.lit (by simp)
            obtain ⟨s0, s1, s2, s3, s4, s5, s6, s7, s8, s9, s10, s11, s12, rfl⟩ := plen13 hxl
            have h0 := hG 0 (by decide)
            rw [if_neg (by decide), if_neg (by decide), HTL.out] at h0
            obtain rfl : s0 = .pointer (some ⟨p, 0, none⟩) := (hev 0 (by decide)).symm.trans h0
            have hc1 := hG 6 (by decide)
            have hc2 := hG 12 (by decide)
            rw [if_pos rfl, show _ = s6 from hev 6 (by decide)] at hc1
            rw [if_neg (by decide), if_pos rfl, show _ = s12 from hev 12 (by decide)] at hc2
            obtain ⟨q1', hq1, hI1⟩ := InX.of2 (S := fun _ => False) hc1 (fun _ _ h => h) HFF.out.1 HSX.out.1
            obtain ⟨q2', hq2, hI2⟩ := InX.of2 (S := fun _ => False) hc2 (fun _ _ h => h) HFF.out.2 HSX.out.2
            have hs9 := HS.out.bel hB
            have hq9 := HQ.out.bel hB
            have HU := hideR (t_UnifyP HM.out.1 HM.out.2 u9 hs9 (HSL.out _ _ u9 hs9 hq9) hI1.in_ hI2.in_)
            have HQ9 := hideR hq9
            have HW9 := hideR (below_go HW.out hB)
            have HQQ := hideR (And.intro hq1 hq2)
            have HGP := hideR (And.intro (fun (g : tkT n dl pr.1 = true) => (⟨_, hI1.gp ((tk_few HFF.out.1 hq1).trans g)⟩ : Gt n pr.1)) (fun (g : tkT n dl pr.2 = true) => (⟨_, hI2.gp ((tk_few HFF.out.2 hq2).trans g)⟩ : Gt n pr.2)))
            clear hev hxl hF hG hB h0 hc1 hc2 hI1 hI2 hs9 hq9 hq1 hq2 HC1 HC2 HS HQ HW HTL
            simp only [List.take_succ_cons, List.take_zero, List.drop_succ_cons, List.drop_zero, List.cons_append, List.nil_append]
            go_wp2_with fail
            refine Calls.mono (show Calls _ _ _ _ _ from HU.out) ?_
            rintro e u3 ⟨hsaid, hk3⟩
            obtain ⟨rfl, hs3⟩ := unP_said HFF.out.1 HFF.out.2 HQQ.out.1 HQQ.out.2 hsaid
            have HS3 := hideR hs3
            have HQ3 := hideR (HQ9.out.kvO hk3 HAQ.out HSD.out.1 HSD.out.2.2.1)
            have HW3 := hideR (hk3.bel HW9.out (fun k e => HLO.out k (HSD.out.2.2.1 k e)))
            clear hsaid hk3 hs3 HU HW9 HQ9 HQQ
            have HA3 := hideR (nx_ac (m := m) (f := f) HGD.out HAC.out HGP.out.1 HGP.out.2)
            have HC1 := hideR (fun (u9 : World) (hu : Below u3.heap.size u3 u9) => t_copied dl u9 pr.1 _ ((HV.out.1.but (Abv.of HW3.out)).but (Abv.of hu)) HFF.out.1)
            have HC2 := hideR (fun (u9 : World) (hu : Below u3.heap.size u3 u9) => t_copied dl u9 pr.2 _ ((HV.out.2.but (Abv.of HW3.out)).but (Abv.of hu)) HFF.out.2)
            obtain ⟨zz, hzz⟩ : ∃ zz, zz = nxZ m f n dl h pr.1 pr.2 := ⟨_, rfl⟩
            have HZZ := hideR hzz
            rw [← hzz]
            clear hzz HGP HGD HAC
            go_upto_region 10 with fail
            obtain ⟨TL, hTL⟩ : ∃ TL : List Value, TL = [.pointer (some ⟨q, 0, none⟩), .slice (some ⟨b1, off, none⟩) l.length cR, .int .i64 i, .pointer (some ⟨b1, off + i * 8, none⟩), .pointer (some ⟨b1, off + i * 8, none⟩), .agg #[.int .i64 k1, .string x1, .int .i64 n1, u1], undef, .slice (some ⟨b1, off, none⟩) l.length cR, .int .i64 i, .pointer (some ⟨b1, off + i * 8, none⟩), .pointer (some ⟨b1, off + i * 8 + 4, none⟩), .agg #[.int .i64 k2, .string x2, .int .i64 n2, u2], undef] := ⟨_, rfl⟩
            have HTL := hideR hTL
            clear hTL
            refine Reg.wp_region_two 13 (fun j => 68 + j) (fun j v u => if j = 6 then tyO u3.heap.size pr.1 v u else if j = 12 then tyO u3.heap.size pr.2 v u else v = TL.getD j undef) (by kernel_rfl) (by kernel_rfl) (fun i1 i2 h1 h2 h => by have h' : 68 + i1 = 68 + i2 := h; omega) (Reg.dst_ok (dst := fun j => 68 + j) (size := 183) (by kernel_rfl)) (fun j v u u' _ h hb => by
                by_cases h3 : j = 6
                · rw [if_pos h3] at h ⊢; exact h.on (Abv.lo (Abv.of hb) (Nat.zero_le _)) (Nat.le_refl _)
                · rw [if_neg h3] at h ⊢
                  by_cases h5 : j = 12
                  · rw [if_pos h5] at h ⊢; exact h.on (Abv.lo (Abv.of hb) (Nat.zero_le _)) (Nat.le_refl _)
                  · rw [if_neg h5] at h ⊢; exact h) ?hs2 ?ht2
            case hs2 =>
              intro j o' a9 u9 hj ho hF hB hd
              have f1 : a9.tmps[1]?.getD undef = .slice (some ⟨b1, off, none⟩) l.length cR := Reg.ev_get (hF.eval 1 (fun i hi => by show 68 + i ≠ 1; omega))
              have f10 : a9.tmps[10]?.getD undef = .pointer (some ⟨q, 0, none⟩) := Reg.ev_get (hF.eval 10 (fun i hi => by show 68 + i ≠ 10; omega))
              have f12 : a9.tmps[12]?.getD undef = .int .i64 (i : Int) := Reg.ev_get (hF.eval 12 (fun i hi => by show 68 + i ≠ 12; omega))
              obtain ⟨g0, g1, g2, g3, l0, l1, l2, l3⟩ := HG.out
              have hBW := below_go HW3.out hB
              have g0 := cell_on hBW g0
              have g1 := cell_on hBW g1
              have g2 := cell_on hBW g2
              have g3 := cell_on hBW g3
              have l0 := cell_on hBW l0
              have l1 := cell_on hBW l1
              have l2 := cell_on hBW l2
              have l3 := cell_on hBW l3
              clear hBW
              have HCA := hideR (HC1.out u9 hB)
              have HCB := hideR (HC2.out u9 hB)
              have hsz := hB.size
              have hd2 : ∀ j2 ∈ Reg.deps o', j2 ≠ 6 → j2 ≠ 12 → a9.tmps[68 + j2]?.getD undef = TL.getD j2 undef := fun j2 hj2 h3 h5 => by
                have h := hd j2 hj2
                rw [if_neg h3, if_neg h5] at h
                exact Reg.ev_get h
              have hTL := HTL.out
              subst hTL
              clear hd
              rcases (by omega : j = 6 ∨ j = 12 ∨ (j ≠ 6 ∧ j ≠ 12)) with rfl | rfl | hn6
              · simp only [List.getElem?_toArray, List.getElem?_cons_succ, List.getElem?_cons_zero, Option.some.injEq] at ho
                subst ho
                refine Reg.step_k fun Z9 hZ => ?_
                simp [Reg.deps, Region.binds] at hd2
                go_simp
                refine Calls.mono (show Calls _ _ _ _ _ from HCA.out) ?_
                rintro e w' ⟨v9, rfl, h1, h2⟩
                exact hZ _ _ ⟨_, rfl, h1, h2.on (fun _ _ _ => rfl) hsz⟩
              · simp only [List.getElem?_toArray, List.getElem?_cons_succ, List.getElem?_cons_zero, Option.some.injEq] at ho
                subst ho
                refine Reg.step_k fun Z9 hZ => ?_
                simp [Reg.deps, Region.binds] at hd2
                go_simp
                refine Calls.mono (show Calls _ _ _ _ _ from HCB.out) ?_
                rintro e w' ⟨v9, rfl, h1, h2⟩
                exact hZ _ _ ⟨_, rfl, h1, h2.on (fun _ _ _ => rfl) hsz⟩
              · clear HCA HCB
                rcases (by omega : j = 0 ∨ j = 1 ∨ j = 2 ∨ j = 3 ∨ j = 4 ∨ j = 5 ∨ j = 6 ∨ j = 7 ∨ j = 8 ∨ j = 9 ∨ j = 10 ∨ j = 11 ∨ j = 12) with rfl | rfl | rfl | rfl | rfl | rfl | rfl | rfl | rfl | rfl | rfl | rfl | rfl
                all_goals (
                  simp only [List.getElem?_toArray, List.getElem?_cons_succ, List.getElem?_cons_zero, Option.some.injEq] at ho
                  subst ho
                  first
                  | exact absurd rfl hn6.1
                  | exact absurd rfl hn6.2
                  | (refine Reg.step_k fun Z9 hZ => ?_
                     clear hn6
                     simp [Reg.deps, Region.binds] at hd2
                     go_simp
                     first
                     | exact hZ _ _ ⟨_, rfl, Below.refl _ _, rfl⟩
                     | exact hZ _ _ ⟨_, rfl, Below.refl _ _, by simp [*]⟩))
            case ht2 =>
              intro a9 u9 hF hB hG
              obtain ⟨xl, hxl, rfl, hev⟩ := hF.lit (by simp)
              obtain ⟨s0, s1, s2, s3, s4, s5, s6, s7, s8, s9, s10, s11, s12, rfl⟩ := plen13 hxl
              have h0 := hG 0 (by decide)
              rw [if_neg (by decide), if_neg (by decide), HTL.out] at h0
              obtain rfl : s0 = .pointer (some ⟨q, 0, none⟩) := (hev 0 (by decide)).symm.trans h0
              have hc1 := hG 6 (by decide)
              have hc2 := hG 12 (by decide)
              rw [if_pos rfl, show _ = s6 from hev 6 (by decide)] at hc1
              rw [if_neg (by decide), if_pos rfl, show _ = s12 from hev 12 (by decide)] at hc2
              obtain ⟨q1', hq1, hI1⟩ := InX.of2 (S := fun _ => False) hc1 (fun _ _ h => h) HFF.out.1 HSX.out.1
              obtain ⟨q2', hq2, hI2⟩ := InX.of2 (S := fun _ => False) hc2 (fun _ _ h => h) HFF.out.2 HSX.out.2
              have hs9 := HS3.out.bel hB
              have hq9 := HQ3.out.bel hB
              have HU := hideR (t_UnifyP HM.out.1 HM.out.2 u9 hq9 (HSL.out _ _ u9 hs9 hq9) hI1.in_ hI2.in_)
              have HS9 := hideR hs9
              have HW9 := hideR (below_go HW3.out hB)
              have HQQ := hideR (And.intro hq1 hq2)
              clear hev hxl hF hG hB h0 hc1 hc2 hI1 hI2 hs9 hq9 hq1 hq2 HC1 HC2 HG HV HS3 HQ3 HW3 HTL
              simp only [List.take_succ_cons, List.take_zero, List.drop_succ_cons, List.drop_zero, List.cons_append, List.nil_append]
              go_wp2_with fail
              refine Calls.mono (show Calls _ _ _ _ _ from HU.out) ?_
              rintro e u4 ⟨hsaid, hk3⟩
              obtain ⟨rfl, hq3⟩ := unP_said HFF.out.1 HFF.out.2 HQQ.out.1 HQQ.out.2 hsaid
              have HQ4 := hideR hq3
              have HS4 := hideR (HS9.out.kvO hk3 HAP.out HSD.out.2.1 HSD.out.2.2.2)
              have HW4 := hideR (hk3.bel HW9.out (fun k e => HLO.out k (HSD.out.2.2.2 k e)))
              clear hsaid hk3 hq3 HU HW9 HS9 HQQ
              rw [← HZZ.out]
              have q3 : (zz != zz) = false := by simp
              go_wp2
              go_roundw
              case rel => exact ⟨i + 1, nxH m f n dl h pr.1 pr.2, by first | rfl | (congr 1), hp.1, hp.2, HS4, HQ4, HA3, HW4⟩
              case measure => (simp; omega)
        · have HE : Hid (i < l.length → ¬ i < 12) := hideR (fun h1 h2 => hp ⟨h1, h2⟩)
          clear hp
          by_cases hp1 : i < l.length
          · have q1 : decide ((i : Int) < (l.length : Int)) = true := decide_eq_true (by omega)
            have q2 : decide ((i : Int) < 12) = false := decide_eq_false (by have := HE.out hp1; omega)
            clear HE
            have HSX := hideR HSM.out.2
            have HGD := hideR HS.out.gd
            have HXT := hideR ((HW.out.block _ (Array.getElem?_eq_some_iff.1 HX.out).1).trans HX.out)
            have HC1 := hideR (fun (u9 : World) (hu : Below wr.heap.size wr u9) => t_copied d u9 A _ ((HVA.out.but (Abv.of HW.out)).but (Abv.of hu)) HFT.out.1)
            have HC2 := hideR (fun (u9 : World) (hu : Below wr.heap.size wr u9) => t_copied d u9 B _ ((HVB.out.but (Abv.of HW.out)).but (Abv.of hu)) HFT.out.2)
            go_upto_region 13 with fail
            obtain ⟨TL, hTL⟩ : ∃ TL : List Value, TL = [.pointer (some ⟨p, 0, none⟩), .pointer (some ⟨w.heap.size, 0, none⟩), .agg #[.int .i64 ka, .string xa, .int .i64 na, ua], undef, .pointer (some ⟨w.heap.size, 4, none⟩), .agg #[.int .i64 kb, .string xb, .int .i64 nb, ub], undef] := ⟨_, rfl⟩
            have HTL := hideR hTL
            clear hTL
            refine Reg.wp_region_two 7 (fun j => 85 + j) (fun j v u => if j = 3 then tyO wr.heap.size A v u else if j = 6 then tyO wr.heap.size B v u else v = TL.getD j undef) (by kernel_rfl) (by kernel_rfl) (fun i1 i2 h1 h2 h => by have h' : 85 + i1 = 85 + i2 := h; omega) (Reg.dst_ok (dst := fun j => 85 + j) (size := 183) (by kernel_rfl)) (fun j v u u' _ h hb => by
                by_cases h3 : j = 3
                · rw [if_pos h3] at h ⊢; exact h.on (Abv.lo (Abv.of hb) (Nat.zero_le _)) (Nat.le_refl _)
                · rw [if_neg h3] at h ⊢
                  by_cases h5 : j = 6
                  · rw [if_pos h5] at h ⊢; exact h.on (Abv.lo (Abv.of hb) (Nat.zero_le _)) (Nat.le_refl _)
                  · rw [if_neg h5] at h ⊢; exact h) ?hs3 ?ht3
            case hs3 =>
              intro j o' a9 u9 hj ho hF hB hd
              have f5 : a9.tmps[5]?.getD undef = .pointer (some ⟨w.heap.size, 0, none⟩) := Reg.ev_get (hF.eval 5 (fun i hi => by show 85 + i ≠ 5; omega))
              have f8 : a9.tmps[8]?.getD undef = .pointer (some ⟨p, 0, none⟩) := Reg.ev_get (hF.eval 8 (fun i hi => by show 85 + i ≠ 8; omega))
              have hxx := (hB.block _ (Array.getElem?_eq_some_iff.1 HXT.out).1).trans HXT.out
              have g0 := put_cell hxx 0 _ rfl
              have g1 := put_cell hxx 1 _ rfl
              have g2 := put_cell hxx 2 _ rfl
              have g3 := put_cell hxx 3 _ rfl
              have l0 := put_cell hxx 4 _ rfl
              have l1 := put_cell hxx 5 _ rfl
              have l2 := put_cell hxx 6 _ rfl
              have l3 := put_cell hxx 7 _ rfl
              clear hxx
              have HCA := hideR (HC1.out u9 hB)
              have HCB := hideR (HC2.out u9 hB)
              have hsz := hB.size
              have hd2 : ∀ j2 ∈ Reg.deps o', j2 ≠ 3 → j2 ≠ 6 → a9.tmps[85 + j2]?.getD undef = TL.getD j2 undef := fun j2 hj2 h3 h5 => by
                have h := hd j2 hj2
                rw [if_neg h3, if_neg h5] at h
                exact Reg.ev_get h
              have hTL := HTL.out
              subst hTL
              clear hd
              rcases (by omega : j = 3 ∨ j = 6 ∨ (j ≠ 3 ∧ j ≠ 6)) with rfl | rfl | hn6
              · simp only [List.getElem?_toArray, List.getElem?_cons_succ, List.getElem?_cons_zero, Option.some.injEq] at ho
                subst ho
                refine Reg.step_k fun Z9 hZ => ?_
                simp [Reg.deps, Region.binds] at hd2
                go_simp
                refine Calls.mono (show Calls _ _ _ _ _ from HCA.out) ?_
                rintro e w' ⟨v9, rfl, h1, h2⟩
                exact hZ _ _ ⟨_, rfl, h1, h2.on (fun _ _ _ => rfl) hsz⟩
              · simp only [List.getElem?_toArray, List.getElem?_cons_succ, List.getElem?_cons_zero, Option.some.injEq] at ho
                subst ho
                refine Reg.step_k fun Z9 hZ => ?_
                simp [Reg.deps, Region.binds] at hd2
                go_simp
                refine Calls.mono (show Calls _ _ _ _ _ from HCB.out) ?_
                rintro e w' ⟨v9, rfl, h1, h2⟩
                exact hZ _ _ ⟨_, rfl, h1, h2.on (fun _ _ _ => rfl) hsz⟩
              · clear HCA HCB
                rcases (by omega : j = 0 ∨ j = 1 ∨ j = 2 ∨ j = 3 ∨ j = 4 ∨ j = 5 ∨ j = 6) with rfl | rfl | rfl | rfl | rfl | rfl | rfl
                all_goals (
                  simp only [List.getElem?_toArray, List.getElem?_cons_succ, List.getElem?_cons_zero, Option.some.injEq] at ho
                  subst ho
                  first
                  | exact absurd rfl hn6.1
                  | exact absurd rfl hn6.2
                  | (refine Reg.step_k fun Z9 hZ => ?_
                     clear hn6
                     simp [Reg.deps, Region.binds] at hd2
                     go_simp
                     first
                     | exact hZ _ _ ⟨_, rfl, Below.refl _ _, rfl⟩
                     | exact hZ _ _ ⟨_, rfl, Below.refl _ _, by simp [*]⟩))
            case ht3 =>
              intro a9 u9 hF hB hG
              obtain ⟨xl, hxl, rfl, hev⟩ := hF.lit (by simp)
              obtain ⟨s0, s1, s2, s3, s4, s5, s6, rfl⟩ := plen7 hxl
              have h0 := hG 0 (by decide)
              rw [if_neg (by decide), if_neg (by decide), HTL.out] at h0
              obtain rfl : s0 = .pointer (some ⟨p, 0, none⟩) := (hev 0 (by decide)).symm.trans h0
              have hc1 := hG 3 (by decide)
              have hc2 := hG 6 (by decide)
              rw [if_pos rfl, show _ = s3 from hev 3 (by decide)] at hc1
              rw [if_neg (by decide), if_pos rfl, show _ = s6 from hev 6 (by decide)] at hc2
              obtain ⟨q1', hq1, hI1⟩ := InX.of2 (S := fun _ => False) hc1 (fun _ _ h => h) HFT.out.1 HSX.out.1
              obtain ⟨q2', hq2, hI2⟩ := InX.of2 (S := fun _ => False) hc2 (fun _ _ h => h) HFT.out.2 HSX.out.2
              have hs9 := HS.out.bel hB
              have hq9 := HQ.out.bel hB
              have HU := hideR (t_UnifyP HM.out.1 HM.out.2 u9 hs9 (HSL.out _ _ u9 hs9 hq9) hI1.in_ hI2.in_)
              have HQ9 := hideR hq9
              have HW9 := hideR (below_go HW.out hB)
              have HQQ := hideR (And.intro hq1 hq2)
              have HGP := hideR (And.intro (fun (g : tkT n d A = true) => (⟨_, hI1.gp ((tk_few HFT.out.1 hq1).trans g)⟩ : Gt n A)) (fun (g : tkT n d B = true) => (⟨_, hI2.gp ((tk_few HFT.out.2 hq2).trans g)⟩ : Gt n B)))
              clear hev hxl hF hG hB h0 hc1 hc2 hI1 hI2 hs9 hq9 hq1 hq2 HC1 HC2 HXT HS HQ HW HTL
              simp only [List.take_succ_cons, List.take_zero, List.drop_succ_cons, List.drop_zero, List.cons_append, List.nil_append]
              go_wp2_with fail
              refine Calls.mono (show Calls _ _ _ _ _ from HU.out) ?_
              rintro e u3 ⟨hsaid, hk3⟩
              obtain ⟨rfl, hs3⟩ := unP_said HFT.out.1 HFT.out.2 HQQ.out.1 HQQ.out.2 hsaid
              have HS3 := hideR hs3
              have HQ3 := hideR (HQ9.out.kvO hk3 HAQ.out HSD.out.1 HSD.out.2.2.1)
              have HW3 := hideR (hk3.bel HW9.out (fun k e => HLO.out k (HSD.out.2.2.1 k e)))
              clear hsaid hk3 hs3 HU HW9 HQ9 HQQ
              have HCS := hideR (sm_cases (m := m) (f := f) HGD.out HAC.out HGP.out.1 HGP.out.2)
              have HA3 := hideR (nx_ac (m := m) (f := f) HGD.out HAC.out HGP.out.1 HGP.out.2)
              obtain ⟨ze, hze⟩ : ∃ ze, ze = nxZ m f n d h A B := ⟨_, rfl⟩
              rw [← hze] at HCS ⊢
              clear hze HGP HGD HAC HSX
              have HSX := hideR (And.intro HSM.out.2.2 HSM.out.2.1)
              have HFU := hideR (And.intro HFT.out.2 HFT.out.1)
              have HXT := hideR ((HW3.out.block _ (Array.getElem?_eq_some_iff.1 HX.out).1).trans HX.out)
              have HC1 := hideR (fun (u9 : World) (hu : Below u3.heap.size u3 u9) => t_copied d u9 A _ ((HVA.out.but (Abv.of HW3.out)).but (Abv.of hu)) HFT.out.1)
              have HC2 := hideR (fun (u9 : World) (hu : Below u3.heap.size u3 u9) => t_copied d u9 B _ ((HVB.out.but (Abv.of HW3.out)).but (Abv.of hu)) HFT.out.2)
              go_upto_region 14 with fail
              obtain ⟨TL, hTL⟩ : ∃ TL : List Value, TL = [.pointer (some ⟨q, 0, none⟩), .pointer (some ⟨w.heap.size, 4, none⟩), .agg #[.int .i64 kb, .string xb, .int .i64 nb, ub], undef, .pointer (some ⟨w.heap.size, 0, none⟩), .agg #[.int .i64 ka, .string xa, .int .i64 na, ua], undef] := ⟨_, rfl⟩
              have HTL := hideR hTL
              clear hTL
              refine Reg.wp_region_two 7 (fun j => 93 + j) (fun j v u => if j = 3 then tyO u3.heap.size B v u else if j = 6 then tyO u3.heap.size A v u else v = TL.getD j undef) (by kernel_rfl) (by kernel_rfl) (fun i1 i2 h1 h2 h => by have h' : 93 + i1 = 93 + i2 := h; omega) (Reg.dst_ok (dst := fun j => 93 + j) (size := 183) (by kernel_rfl)) (fun j v u u' _ h hb => by
                  by_cases h3 : j = 3
                  · rw [if_pos h3] at h ⊢; exact h.on (Abv.lo (Abv.of hb) (Nat.zero_le _)) (Nat.le_refl _)
                  · rw [if_neg h3] at h ⊢
                    by_cases h5 : j = 6
                    · rw [if_pos h5] at h ⊢; exact h.on (Abv.lo (Abv.of hb) (Nat.zero_le _)) (Nat.le_refl _)
                    · rw [if_neg h5] at h ⊢; exact h) ?hs4 ?ht4
              case hs4 =>
                intro j o' a9 u9 hj ho hF hB hd
                have f5 : a9.tmps[5]?.getD undef = .pointer (some ⟨w.heap.size, 0, none⟩) := Reg.ev_get (hF.eval 5 (fun i hi => by show 93 + i ≠ 5; omega))
                have f10 : a9.tmps[10]?.getD undef = .pointer (some ⟨q, 0, none⟩) := Reg.ev_get (hF.eval 10 (fun i hi => by show 93 + i ≠ 10; omega))
                have hxx := (hB.block _ (Array.getElem?_eq_some_iff.1 HXT.out).1).trans HXT.out
                have g0 := put_cell hxx 0 _ rfl
                have g1 := put_cell hxx 1 _ rfl
                have g2 := put_cell hxx 2 _ rfl
                have g3 := put_cell hxx 3 _ rfl
                have l0 := put_cell hxx 4 _ rfl
                have l1 := put_cell hxx 5 _ rfl
                have l2 := put_cell hxx 6 _ rfl
                have l3 := put_cell hxx 7 _ rfl
                clear hxx
                have HCA := hideR (HC2.out u9 hB)
                have HCB := hideR (HC1.out u9 hB)
                have hsz := hB.size
                have hd2 : ∀ j2 ∈ Reg.deps o', j2 ≠ 3 → j2 ≠ 6 → a9.tmps[93 + j2]?.getD undef = TL.getD j2 undef := fun j2 hj2 h3 h5 => by
                  have h := hd j2 hj2
                  rw [if_neg h3, if_neg h5] at h
                  exact Reg.ev_get h
                have hTL := HTL.out
                subst hTL
                clear hd
                rcases (by omega : j = 3 ∨ j = 6 ∨ (j ≠ 3 ∧ j ≠ 6)) with rfl | rfl | hn6
                · simp only [List.getElem?_toArray, List.getElem?_cons_succ, List.getElem?_cons_zero, Option.some.injEq] at ho
                  subst ho
                  refine Reg.step_k fun Z9 hZ => ?_
                  simp [Reg.deps, Region.binds] at hd2
                  go_simp
                  refine Calls.mono (show Calls _ _ _ _ _ from HCA.out) ?_
                  rintro e w' ⟨v9, rfl, h1, h2⟩
                  exact hZ _ _ ⟨_, rfl, h1, h2.on (fun _ _ _ => rfl) hsz⟩
                · simp only [List.getElem?_toArray, List.getElem?_cons_succ, List.getElem?_cons_zero, Option.some.injEq] at ho
                  subst ho
                  refine Reg.step_k fun Z9 hZ => ?_
                  simp [Reg.deps, Region.binds] at hd2
                  go_simp
                  refine Calls.mono (show Calls _ _ _ _ _ from HCB.out) ?_
                  rintro e w' ⟨v9, rfl, h1, h2⟩
                  exact hZ _ _ ⟨_, rfl, h1, h2.on (fun _ _ _ => rfl) hsz⟩
                · clear HCA HCB
                  rcases (by omega : j = 0 ∨ j = 1 ∨ j = 2 ∨ j = 3 ∨ j = 4 ∨ j = 5 ∨ j = 6) with rfl | rfl | rfl | rfl | rfl | rfl | rfl
                  all_goals (
                    simp only [List.getElem?_toArray, List.getElem?_cons_succ, List.getElem?_cons_zero, Option.some.injEq] at ho
                    subst ho
                    first
                    | exact absurd rfl hn6.1
                    | exact absurd rfl hn6.2
                    | (refine Reg.step_k fun Z9 hZ => ?_
                       clear hn6
                       simp [Reg.deps, Region.binds] at hd2
                       go_simp
                       first
                       | exact hZ _ _ ⟨_, rfl, Below.refl _ _, rfl⟩
                       | exact hZ _ _ ⟨_, rfl, Below.refl _ _, by simp [*]⟩))
              case ht4 =>
                intro a9 u9 hF hB hG
                obtain ⟨xl, hxl, rfl, hev⟩ := hF.lit (by simp)
                obtain ⟨s0, s1, s2, s3, s4, s5, s6, rfl⟩ := plen7 hxl
                have h0 := hG 0 (by decide)
                rw [if_neg (by decide), if_neg (by decide), HTL.out] at h0
                obtain rfl : s0 = .pointer (some ⟨q, 0, none⟩) := (hev 0 (by decide)).symm.trans h0
                have hc1 := hG 3 (by decide)
                have hc2 := hG 6 (by decide)
                rw [if_pos rfl, show _ = s3 from hev 3 (by decide)] at hc1
                rw [if_neg (by decide), if_pos rfl, show _ = s6 from hev 6 (by decide)] at hc2
                obtain ⟨q1', hq1, hI1⟩ := InX.of2 (S := fun _ => False) hc1 (fun _ _ h => h) HFU.out.1 HSX.out.1
                obtain ⟨q2', hq2, hI2⟩ := InX.of2 (S := fun _ => False) hc2 (fun _ _ h => h) HFU.out.2 HSX.out.2
                have hs9 := HS3.out.bel hB
                have hq9 := HQ3.out.bel hB
                have HU := hideR (t_UnifyP HM.out.1 HM.out.2 u9 hq9 (HSL.out _ _ u9 hs9 hq9) hI1.in_ hI2.in_)
                have HS9 := hideR hs9
                have HW9 := hideR (below_go HW3.out hB)
                have HQQ := hideR (And.intro hq1 hq2)
                clear hev hxl hF hG hB h0 hc1 hc2 hI1 hI2 hs9 hq9 hq1 hq2 HC1 HC2 HXT HS3 HQ3 HW3 HTL
                simp only [List.take_succ_cons, List.take_zero, List.drop_succ_cons, List.drop_zero, List.cons_append, List.nil_append]
                go_wp2_with fail
                refine Calls.mono (show Calls _ _ _ _ _ from HU.out) ?_
                rintro e u4 ⟨hsaid, hk3⟩
                obtain ⟨rfl, hq3⟩ := unP_said HFU.out.1 HFU.out.2 HQQ.out.1 HQQ.out.2 hsaid
                have HQ4 := hideR hq3
                have HS4 := hideR (HS9.out.kvO hk3 HAP.out HSD.out.2.1 HSD.out.2.2.2)
                have HW4 := hideR (hk3.bel HW9.out (fun k e => HLO.out k (HSD.out.2.2.2 k e)))
                clear hsaid hk3 hq3 HU HW9 HS9 HQQ
                obtain ⟨zf, hzf⟩ : ∃ zf, zf = nxZ m f n d h B A := ⟨_, rfl⟩
                rw [← hzf] at HCS ⊢
                clear hzf HSX HFU
                rcases HCS.out with h1 | ⟨h1, h2⟩ | ⟨h1, h2, h3, h4, h5⟩ | ⟨h1, h2, h3, h4, h5, h6, h7⟩
                · have q3 : (ze == 3) = true := by simpa using h1
                  clear HCS h1 HS4 HQ4 HA3
                  have HWK := hideR (wakesC u4)
                  go_wp2_with fail
                  refine Calls.mono (show Calls _ _ _ _ _ from HWK.out) ?_
                  rintro e w9 ⟨rfl, hb9⟩
                  have HB9 := hideR (below_go HB.out (below_go HW4.out hb9))
                  clear hb9 HWK
                  go_wp2
                  go_ret
                  exact ⟨rfl, HB9.out⟩
                · have q3 : (ze == 3) = false := by simpa using h1
                  have q4 : (zf == 3) = true := by simpa using h2
                  clear HCS h1 h2 HS4 HQ4 HA3
                  have HWK := hideR (wakesC u4)
                  go_wp2_with fail
                  refine Calls.mono (show Calls _ _ _ _ _ from HWK.out) ?_
                  rintro e w9 ⟨rfl, hb9⟩
                  have HB9 := hideR (below_go HB.out (below_go HW4.out hb9))
                  clear hb9 HWK
                  go_wp2
                  go_ret
                  exact ⟨rfl, HB9.out⟩
                · have q3 : (ze == 3) = false := by simpa using h1
                  have q4 : (zf == 3) = false := by simpa using h2
                  have q5 : (ze == 0) = false := by simpa using h3
                  have q6 : (zf == 0) = false := by simpa using h4
                  have q7 : (ze != 0) = true := bne_iff_ne.2 h3
                  by_cases h8 : ze = 1
                  · have q8 : (ze == 1) = true := by simpa using h8
                    have q9 : (zf == 1) = true := by simpa using h5.1 h8
                    clear HCS h1 h2 h3 h4 h5 h8 HS4 HQ4 HA3
                    have HWK := hideR (wakesC u4)
                    go_wp2_with fail
                    refine Calls.mono (show Calls _ _ _ _ _ from HWK.out) ?_
                    rintro e w9 ⟨rfl, hb9⟩
                    have HB9 := hideR (below_go HB.out (below_go HW4.out hb9))
                    clear hb9 HWK
                    go_wp2
                    go_ret
                    exact ⟨rfl, HB9.out⟩
                  · have q8 : (ze == 1) = false := by simpa using h8
                    have q9 : (zf == 1) = false := by simpa using fun e => h8 (h5.2 e)
                    clear HCS h1 h2 h3 h4 h5 h8 HS4 HQ4 HA3
                    have HWK := hideR (wakesC u4)
                    go_wp2_with fail
                    refine Calls.mono (show Calls _ _ _ _ _ from HWK.out) ?_
                    rintro e w9 ⟨rfl, hb9⟩
                    have HB9 := hideR (below_go HB.out (below_go HW4.out hb9))
                    clear hb9 HWK
                    go_wp2
                    go_ret
                    exact ⟨rfl, HB9.out⟩
                · clear HCS
                  subst h1 h2
                  have HTT := hideR (And.intro h3 (And.intro h4 (And.intro h5 (And.intro h6 h7))))
                  clear h3 h4 h5 h6 h7
                  obtain ⟨hh, hhh⟩ : ∃ hh, hh = nxH m f n d h A B := ⟨_, rfl⟩
                  obtain ⟨hk, hhk⟩ : ∃ hk, hk = nxH m f n d h B A := ⟨_, rfl⟩
                  rw [← hhh] at HS4 HA3 HTT
                  rw [← hhk] at HQ4
                  clear hhh hhk
                  have HGH := hideR HS4.out.gd
                  go_upto_region 21 with fail
                  have HXT := hideR ((HW4.out.block _ (Array.getElem?_eq_some_iff.1 HX.out).1).trans HX.out)
                  have g0 := put_cell HXT.out 0 _ rfl
                  have g1 := put_cell HXT.out 1 _ rfl
                  have g2 := put_cell HXT.out 2 _ rfl
                  have g3 := put_cell HXT.out 3 _ rfl
                  have HC1 := hideR (t_copied d u4 A _ (HVA.out.but (Abv.of HW4.out)) HFT.out.1)
                  have HSLR := hideR (HSL.out _ _ u4 HS4.out HQ4.out)
                  go_wp2_with fail
                  refine Calls.mono (show Calls _ _ _ _ _ from HC1.out) ?_
                  rintro e y1 ⟨v1, rfl, hb1, hty1⟩
                  have hs1 := HS4.out.bel hb1
                  obtain ⟨q1', hq1, hI1⟩ := InX.of2 (S := S) hty1 (fun k hk hs => by have := HSLR.out k hs; omega) HFT.out.1 HSM.out.2.1
                  have hsl1 : ∀ k, S k → k < y1.heap.size := fun k hk => Nat.lt_of_lt_of_le (HSLR.out k hk) hb1.size
                  have HAP1 := hideR (t_ApplyP HM.out.1 y1 hs1 hsl1 hI1)
                  have HTK1 : Hid (tkT n q1' A = true) := hideR ((tk_few HFT.out.1 hq1).trans HTT.out.1)
                  have HSL1 := hideR hsl1
                  have HW1a := hideR (below_go HW4.out hb1)
                  have HQ1a := hideR (HQ4.out.bel hb1)
                  clear hb1 hty1 hs1 hsl1 hq1 hI1 HC1 HSLR HS4 HQ4 HW4 g0 g1 g2 g3 HXT
                  go_wp2_with fail
                  refine Calls.mono (show Calls _ _ _ _ _ from HAP1.out) ?_
                  rintro e y2 ⟨va, za, rfl, hs2, hk2, hsaid⟩
                  obtain ⟨hza, dAa, hat⟩ := ap_val HTK1.out HSL1.out hsaid
                  obtain ⟨ka1, xa1, na1, ra1, rfl, honea⟩ := hat.val
                  obtain ⟨W4, hW4⟩ : ∃ W4, W4 = y2.alloc (.cells #[.int .i64 0, .string ⟨#[]⟩, .int .i64 0, .slice none 0 0] 34) := ⟨_, rfl⟩
                  have hb4 : Below y2.heap.size y2 W4 := by rw [hW4]; exact new_on' _ _
                  have hx4 : W4.heap[y2.heap.size]? = some (.cells #[.int .i64 0, .string ⟨#[]⟩, .int .i64 0, .slice none 0 0] 34 (0, 0)) := by rw [hW4]; exact heap_alloc_new y2 _
                  obtain ⟨ya, hW5, hth5, hbk5, hbl5, hne5⟩ := put4 (w := y2) (z := #[.int .i64 0, .string ⟨#[]⟩, .int .i64 0, .slice none 0 0]) (vs := #[.int .i64 ka1, .string xa1, .int .i64 na1, ra1]) rfl hx4 hb4 (Nat.le_refl _)
                  obtain ⟨ba, hbba⟩ : ∃ b, b = y2.heap.size := ⟨_, rfl⟩
                  have HT5 := hideR hth5; have HW5 := hideR hW5
                  rw [← hbba] at hbk5
                  have HXa := hideR hbk5
                  have HBB := hideR hbba
                  have HSa := hideR (hs2.bel hbl5)
                  have HQa := hideR ((HQ1a.out.kvO hk2 HAQ.out HSD.out.1 HSD.out.2.2.1).bel hbl5)
                  have HWa := hideR (below_go (hk2.bel HW1a.out (fun k e => HLO.out k (HSD.out.2.2.1 k e))) hbl5)
                  have HATa := hideR (hat.bel hbl5)
                  have HZa := hideR hza
                  have HSLa : Hid (∀ k, S k → k < ba) := hideR (fun k hk => by rw [hbba]; exact Nat.lt_of_lt_of_le (HSL1.out k hk) hk2.size)
                  clear hs2 hk2 hsaid hat hza hb4 hx4 hth5 hbk5 hbl5 hne5 hW5 HAP1 HTK1 HW1a HQ1a HSL1
                  go_upto_region 22 with (first | (rw [← hW4]; refine wpList_store_mid rfl 34 (.tmp 17) (.tmp 129) rfl y2.heap.size 0 #[.int .i64 ka1, .string xa1, .int .i64 na1, ra1] rfl rfl HT5.out sizeTy' (by simp [Value.oneCell'] at honea ⊢; exact honea) ?_; rw [HW5.out]) | fail)
                  rw [← HBB.out]
                  clear hW4 HT5 HW5 HBB hbba
                  have HXT := hideR ((HWa.out.block _ (Array.getElem?_eq_some_iff.1 HX.out).1).trans HX.out)
                  have g0 := put_cell HXT.out 4 _ rfl
                  have g1 := put_cell HXT.out 5 _ rfl
                  have g2 := put_cell HXT.out 6 _ rfl
                  have g3 := put_cell HXT.out 7 _ rfl
                  have HC1 := hideR (t_copied d ya B _ (HVB.out.but (Abv.of HWa.out)) HFT.out.2)
                  have HSLR := hideR (HSL.out _ _ ya HSa.out HQa.out)
                  go_wp2_with fail
                  refine Calls.mono (show Calls _ _ _ _ _ from HC1.out) ?_
                  rintro e y1 ⟨v1, rfl, hb1, hty1⟩
                  have hs1 := HSa.out.bel hb1
                  obtain ⟨q1', hq1, hI1⟩ := InX.of2 (S := S) hty1 (fun k hk hs => by have := HSLR.out k hs; omega) HFT.out.2 HSM.out.2.2
                  have hsl1 : ∀ k, S k → k < y1.heap.size := fun k hk => Nat.lt_of_lt_of_le (HSLR.out k hk) hb1.size
                  have HAP1 := hideR (t_ApplyP HM.out.1 y1 hs1 hsl1 hI1)
                  have HTK1 : Hid (tkT n q1' B = true) := hideR ((tk_few HFT.out.2 hq1).trans HTT.out.2.1)
                  have HSL1 := hideR hsl1
                  have HW1b := hideR (below_go HWa.out hb1)
                  have HQ1b := hideR (HQa.out.bel hb1)
                  have HATa1 := hideR (HATa.out.bel hb1)
                  have HXa1 := hideR ((hb1.block _ (Array.getElem?_eq_some_iff.1 HXa.out).1).trans HXa.out)
                  clear hb1 hty1 hs1 hsl1 hq1 hI1 HC1 HSLR HSa HQa HWa g0 g1 g2 g3 HXT HATa HXa
                  go_wp2_with fail
                  refine Calls.mono (show Calls _ _ _ _ _ from HAP1.out) ?_
                  rintro e y2 ⟨va, za, rfl, hs2, hk2, hsaid⟩
                  obtain ⟨hzb, dAb, hat⟩ := ap_val HTK1.out HSL1.out hsaid
                  obtain ⟨kb1, xb1, nb1, rb1, rfl, honeb⟩ := hat.val
                  obtain ⟨W4, hW4⟩ : ∃ W4, W4 = y2.alloc (.cells #[.int .i64 0, .string ⟨#[]⟩, .int .i64 0, .slice none 0 0] 34) := ⟨_, rfl⟩
                  have hb4 : Below y2.heap.size y2 W4 := by rw [hW4]; exact new_on' _ _
                  have hx4 : W4.heap[y2.heap.size]? = some (.cells #[.int .i64 0, .string ⟨#[]⟩, .int .i64 0, .slice none 0 0] 34 (0, 0)) := by rw [hW4]; exact heap_alloc_new y2 _
                  obtain ⟨yb, hW5, hth5, hbk5, hbl5, hne5⟩ := put4 (w := y2) (z := #[.int .i64 0, .string ⟨#[]⟩, .int .i64 0, .slice none 0 0]) (vs := #[.int .i64 kb1, .string xb1, .int .i64 nb1, rb1]) rfl hx4 hb4 (Nat.le_refl _)
                  obtain ⟨bb, hbbb⟩ : ∃ b, b = y2.heap.size := ⟨_, rfl⟩
                  have HT5 := hideR hth5; have HW5 := hideR hW5
                  rw [← hbbb] at hbk5
                  have HXb := hideR hbk5
                  have HBB := hideR hbbb
                  have HSb := hideR (hs2.bel hbl5)
                  have HQb := hideR ((HQ1b.out.kvO hk2 HAQ.out HSD.out.1 HSD.out.2.2.1).bel hbl5)
                  have HWb := hideR (below_go (hk2.bel HW1b.out (fun k e => HLO.out k (HSD.out.2.2.1 k e))) hbl5)
                  have HATb := hideR (hat.bel hbl5)
                  have HZb := hideR hzb
                  have HSLb : Hid (∀ k, S k → k < bb) := hideR (fun k hk => by rw [hbbb]; exact Nat.lt_of_lt_of_le (HSL1.out k hk) hk2.size)
                  have HATa := hideR ((HATa1.out.kv hk2 HSD.out.2.2.1).bel hbl5)
                  have HXa := hideR ((hbl5.block _ (Nat.lt_of_lt_of_le (Array.getElem?_eq_some_iff.1 HXa1.out).1 hk2.size)).trans ((hk2.block _ (Array.getElem?_eq_some_iff.1 HXa1.out).1 (fun e => Nat.lt_irrefl _ (HSLa.out _ (HSD.out.2.2.1 _ e)))).trans HXa1.out))
                  clear hs2 hk2 hsaid hat hzb hb4 hx4 hth5 hbk5 hbl5 hne5 hW5 HAP1 HTK1 HW1b HQ1b HSL1 HATa1 HXa1
                  go_upto_region 23 with (first | (rw [← hW4]; refine wpList_store_mid rfl 34 (.tmp 19) (.tmp 137) rfl y2.heap.size 0 #[.int .i64 kb1, .string xb1, .int .i64 nb1, rb1] rfl rfl HT5.out sizeTy' (by simp [Value.oneCell'] at honeb ⊢; exact honeb) ?_; rw [HW5.out]) | fail)
                  rw [← HBB.out]
                  clear hW4 HT5 HW5 HBB hbbb
                  have HEQ := hideR (ap_eq (m := m) HTT.out.2.2.2.2)
                  obtain ⟨z, hz⟩ : ∃ z, z = (lkT hh 0 m 0 A).1 := ⟨_, rfl⟩
                  have hzb : (lkT hh 0 m 0 B).1 = z := by rw [hz]; exact HEQ.out.2.symm
                  have HZ := hideR hz
                  rw [HZa.out, HZb.out, hzb, ← hz]
                  clear hz hzb
                  have q3 : (z != z) = false := by simp
                  have HAB : Hid (AtX S yb dAb (apX hh m A) (.agg #[.int .i64 kb1, .string xb1, .int .i64 nb1, rb1])) := hideR (by rw [HEQ.out.1]; exact HATb.out)
                  obtain ⟨dd, hV1, hV2⟩ := ap_two HATa.out HAB.out
                  have HSM1 := hideR (t_dSame0 hV1 hV2)
                  clear hV1 hV2 HAB HATb HZa HZb
                  have c0 := put_cell HXa.out 0 _ rfl
                  have c1 := put_cell HXa.out 1 _ rfl
                  have c2 := put_cell HXa.out 2 _ rfl
                  have c3 := put_cell HXa.out 3 _ rfl
                  have b0 := put_cell HXb.out 0 _ rfl
                  have b1 := put_cell HXb.out 1 _ rfl
                  have b2 := put_cell HXb.out 2 _ rfl
                  have b3 := put_cell HXb.out 3 _ rfl
                  go_wp2_with fail
                  refine Calls.mono (show Calls _ _ _ _ _ from HSM1.out) ?_
                  rintro e w6 ⟨rfl, hb6⟩
                  have HS6 := hideR (HSb.out.bel hb6)
                  have HQ6 := hideR (HQb.out.bel hb6)
                  have HW6 := hideR (below_go HWb.out hb6)
                  have HAT6 := hideR (HATa.out.bel hb6)
                  have HXa6 := hideR ((hb6.block _ (Array.getElem?_eq_some_iff.1 HXa.out).1).trans HXa.out)
                  clear hb6 HSM1 HSb HQb HWb HATa HXa HXb c0 c1 c2 c3 b0 b1 b2 b3
                  have HSX := hideR HSM.out.2
                  have HXT := hideR ((HW6.out.block _ (Array.getElem?_eq_some_iff.1 HX.out).1).trans HX.out)
                  have HC1 := hideR (fun (u9 : World) (hu : Below w6.heap.size w6 u9) => t_copied d u9 A _ ((HVA.out.but (Abv.of HW6.out)).but (Abv.of hu)) HFT.out.1)
                  have HC2 := hideR (fun (u9 : World) (hu : Below w6.heap.size w6 u9) => t_copied d u9 B _ ((HVB.out.but (Abv.of HW6.out)).but (Abv.of hu)) HFT.out.2)
                  go_upto_region 25 with fail
                  obtain ⟨TL, hTL⟩ : ∃ TL : List Value, TL = [.pointer (some ⟨p, 0, none⟩), .pointer (some ⟨w.heap.size, 0, none⟩), .agg #[.int .i64 ka, .string xa, .int .i64 na, ua], undef, .pointer (some ⟨w.heap.size, 4, none⟩), .agg #[.int .i64 kb, .string xb, .int .i64 nb, ub], undef] := ⟨_, rfl⟩
                  have HTL := hideR hTL
                  clear hTL
                  refine Reg.wp_region_two 7 (fun j => 148 + j) (fun j v u => if j = 3 then tyO w6.heap.size A v u else if j = 6 then tyO w6.heap.size B v u else v = TL.getD j undef) (by kernel_rfl) (by kernel_rfl) (fun i1 i2 h1 h2 h => by have h' : 148 + i1 = 148 + i2 := h; omega) (Reg.dst_ok (dst := fun j => 148 + j) (size := 183) (by kernel_rfl)) (fun j v u u' _ h hb => by
                      by_cases h3 : j = 3
                      · rw [if_pos h3] at h ⊢; exact h.on (Abv.lo (Abv.of hb) (Nat.zero_le _)) (Nat.le_refl _)
                      · rw [if_neg h3] at h ⊢
                        by_cases h5 : j = 6
                        · rw [if_pos h5] at h ⊢; exact h.on (Abv.lo (Abv.of hb) (Nat.zero_le _)) (Nat.le_refl _)
                        · rw [if_neg h5] at h ⊢; exact h) ?hs5 ?ht5
                  case hs5 =>
                    intro j o' a9 u9 hj ho hF hB hd
                    have f5 : a9.tmps[5]?.getD undef = .pointer (some ⟨w.heap.size, 0, none⟩) := Reg.ev_get (hF.eval 5 (fun i hi => by show 148 + i ≠ 5; omega))
                    have f8 : a9.tmps[8]?.getD undef = .pointer (some ⟨p, 0, none⟩) := Reg.ev_get (hF.eval 8 (fun i hi => by show 148 + i ≠ 8; omega))
                    have hxx := (hB.block _ (Array.getElem?_eq_some_iff.1 HXT.out).1).trans HXT.out
                    have g0 := put_cell hxx 0 _ rfl
                    have g1 := put_cell hxx 1 _ rfl
                    have g2 := put_cell hxx 2 _ rfl
                    have g3 := put_cell hxx 3 _ rfl
                    have l0 := put_cell hxx 4 _ rfl
                    have l1 := put_cell hxx 5 _ rfl
                    have l2 := put_cell hxx 6 _ rfl
                    have l3 := put_cell hxx 7 _ rfl
                    clear hxx
                    have HCA := hideR (HC1.out u9 hB)
                    have HCB := hideR (HC2.out u9 hB)
                    have hsz := hB.size
                    have hd2 : ∀ j2 ∈ Reg.deps o', j2 ≠ 3 → j2 ≠ 6 → a9.tmps[148 + j2]?.getD undef = TL.getD j2 undef := fun j2 hj2 h3 h5 => by
                      have h := hd j2 hj2
                      rw [if_neg h3, if_neg h5] at h
                      exact Reg.ev_get h
                    have hTL := HTL.out
                    subst hTL
                    clear hd
                    rcases (by omega : j = 3 ∨ j = 6 ∨ (j ≠ 3 ∧ j ≠ 6)) with rfl | rfl | hn6
                    · simp only [List.getElem?_toArray, List.getElem?_cons_succ, List.getElem?_cons_zero, Option.some.injEq] at ho
                      subst ho
                      refine Reg.step_k fun Z9 hZ => ?_
                      simp [Reg.deps, Region.binds] at hd2
                      go_simp
                      refine Calls.mono (show Calls _ _ _ _ _ from HCA.out) ?_
                      rintro e w' ⟨v9, rfl, h1, h2⟩
                      exact hZ _ _ ⟨_, rfl, h1, h2.on (fun _ _ _ => rfl) hsz⟩
                    · simp only [List.getElem?_toArray, List.getElem?_cons_succ, List.getElem?_cons_zero, Option.some.injEq] at ho
                      subst ho
                      refine Reg.step_k fun Z9 hZ => ?_
                      simp [Reg.deps, Region.binds] at hd2
                      go_simp
                      refine Calls.mono (show Calls _ _ _ _ _ from HCB.out) ?_
                      rintro e w' ⟨v9, rfl, h1, h2⟩
                      exact hZ _ _ ⟨_, rfl, h1, h2.on (fun _ _ _ => rfl) hsz⟩
                    · clear HCA HCB
                      rcases (by omega : j = 0 ∨ j = 1 ∨ j = 2 ∨ j = 3 ∨ j = 4 ∨ j = 5 ∨ j = 6) with rfl | rfl | rfl | rfl | rfl | rfl | rfl
                      all_goals (
                        simp only [List.getElem?_toArray, List.getElem?_cons_succ, List.getElem?_cons_zero, Option.some.injEq] at ho
                        subst ho
                        first
                        | exact absurd rfl hn6.1
                        | exact absurd rfl hn6.2
                        | (refine Reg.step_k fun Z9 hZ => ?_
                           clear hn6
                           simp [Reg.deps, Region.binds] at hd2
                           go_simp
                           first
                           | exact hZ _ _ ⟨_, rfl, Below.refl _ _, rfl⟩
                           | exact hZ _ _ ⟨_, rfl, Below.refl _ _, by simp [*]⟩))
                  case ht5 =>
                    intro a9 u9 hF hB hG
                    obtain ⟨xl, hxl, rfl, hev⟩ := hF.lit (by simp)
                    obtain ⟨s0, s1, s2, s3, s4, s5, s6, rfl⟩ := plen7 hxl
                    have h0 := hG 0 (by decide)
                    rw [if_neg (by decide), if_neg (by decide), HTL.out] at h0
                    obtain rfl : s0 = .pointer (some ⟨p, 0, none⟩) := (hev 0 (by decide)).symm.trans h0
                    have hc1 := hG 3 (by decide)
                    have hc2 := hG 6 (by decide)
                    rw [if_pos rfl, show _ = s3 from hev 3 (by decide)] at hc1
                    rw [if_neg (by decide), if_pos rfl, show _ = s6 from hev 6 (by decide)] at hc2
                    obtain ⟨q1', hq1, hI1⟩ := InX.of2 (S := fun _ => False) hc1 (fun _ _ h => h) HFT.out.1 HSX.out.1
                    obtain ⟨q2', hq2, hI2⟩ := InX.of2 (S := fun _ => False) hc2 (fun _ _ h => h) HFT.out.2 HSX.out.2
                    have HAT7 := hideR (HAT6.out.bel hB)
                    have HXa7 := hideR ((hB.block _ (Array.getElem?_eq_some_iff.1 HXa6.out).1).trans HXa6.out)
                    clear HAT6 HXa6
                    have hs9 := HS6.out.bel hB
                    have hq9 := HQ6.out.bel hB
                    have HU := hideR (t_UnifyP HM.out.1 HM.out.2 u9 hs9 (HSL.out _ _ u9 hs9 hq9) hI1.in_ hI2.in_)
                    have HQ9 := hideR hq9
                    have HW9 := hideR (below_go HW6.out hB)
                    have HQQ := hideR (And.intro hq1 hq2)
                    have HGP := hideR (And.intro (fun (g : tkT n d A = true) => (⟨_, hI1.gp ((tk_few HFT.out.1 hq1).trans g)⟩ : Gt n A)) (fun (g : tkT n d B = true) => (⟨_, hI2.gp ((tk_few HFT.out.2 hq2).trans g)⟩ : Gt n B)))
                    clear hev hxl hF hG hB h0 hc1 hc2 hI1 hI2 hs9 hq9 hq1 hq2 HC1 HC2 HXT HS6 HQ6 HW6 HTL
                    simp only [List.take_succ_cons, List.take_zero, List.drop_succ_cons, List.drop_zero, List.cons_append, List.nil_append]
                    go_wp2_with fail
                    refine Calls.mono (show Calls _ _ _ _ _ from HU.out) ?_
                    rintro e u3 ⟨hsaid, hk3⟩
                    obtain ⟨rfl, hs3⟩ := unP_said HFT.out.1 HFT.out.2 HQQ.out.1 HQQ.out.2 hsaid
                    have HS8 := hideR hs3
                    have HQ8 := hideR (HQ9.out.kvO hk3 HAQ.out HSD.out.1 HSD.out.2.2.1)
                    have HW8 := hideR (hk3.bel HW9.out (fun k e => HLO.out k (HSD.out.2.2.1 k e)))
                    have HAT8 := hideR (HAT7.out.kv hk3 HSD.out.2.2.1)
                    have HXa8 := hideR ((hk3.block _ (Array.getElem?_eq_some_iff.1 HXa7.out).1 (fun e => Nat.lt_irrefl _ (HSLa.out _ (HSD.out.2.2.1 _ e)))).trans HXa7.out)
                    clear hsaid hk3 hs3 HU HW9 HQ9 HQQ
                    have hag := nx_again (m := m) (f := f) HGH.out HTT.out.1 HTT.out.2.1 HTT.out.2.2.1 HTT.out.2.2.2.1 HTT.out.2.2.2.2
                    rw [hag.2] at HS8
                    obtain ⟨zg, hzg⟩ : ∃ zg, zg = nxZ m f n d hh A B := ⟨_, rfl⟩
                    rw [← hzg] at hag ⊢
                    have HAG := hideR hag.1
                    clear hag hzg HGP HAT7 HXa7 HSX
                    go_upto_region 26 with fail
                    have HXT := hideR ((HW8.out.block _ (Array.getElem?_eq_some_iff.1 HX.out).1).trans HX.out)
                    have g0 := put_cell HXT.out 0 _ rfl
                    have g1 := put_cell HXT.out 1 _ rfl
                    have g2 := put_cell HXT.out 2 _ rfl
                    have g3 := put_cell HXT.out 3 _ rfl
                    have HC1 := hideR (t_copied d u3 A _ (HVA.out.but (Abv.of HW8.out)) HFT.out.1)
                    have HSLR := hideR (HSL.out _ _ u3 HS8.out HQ8.out)
                    go_wp2_with fail
                    refine Calls.mono (show Calls _ _ _ _ _ from HC1.out) ?_
                    rintro e y1 ⟨v1, rfl, hb1, hty1⟩
                    have hs1 := HS8.out.bel hb1
                    obtain ⟨q1', hq1, hI1⟩ := InX.of2 (S := S) hty1 (fun k hk hs => by have := HSLR.out k hs; omega) HFT.out.1 HSM.out.2.1
                    have hsl1 : ∀ k, S k → k < y1.heap.size := fun k hk => Nat.lt_of_lt_of_le (HSLR.out k hk) hb1.size
                    have HAP1 := hideR (t_ApplyP HM.out.1 y1 hs1 hsl1 hI1)
                    have HTK1 : Hid (tkT n q1' A = true) := hideR ((tk_few HFT.out.1 hq1).trans HTT.out.1)
                    have HSL1 := hideR hsl1
                    have HW1c := hideR (below_go HW8.out hb1)
                    have HQ1c := hideR (HQ8.out.bel hb1)
                    have HAT81 := hideR (HAT8.out.bel hb1)
                    have HXa81 := hideR ((hb1.block _ (Array.getElem?_eq_some_iff.1 HXa8.out).1).trans HXa8.out)
                    clear hb1 hty1 hs1 hsl1 hq1 hI1 HC1 HSLR HS8 HQ8 HW8 g0 g1 g2 g3 HXT HAT8 HXa8
                    go_wp2_with fail
                    refine Calls.mono (show Calls _ _ _ _ _ from HAP1.out) ?_
                    rintro e y2 ⟨va, za, rfl, hs2, hk2, hsaid⟩
                    obtain ⟨hzc, dAc, hat⟩ := ap_val HTK1.out HSL1.out hsaid
                    obtain ⟨kc1, xc1, nc1, rc1, rfl, honec⟩ := hat.val
                    obtain ⟨W4, hW4⟩ : ∃ W4, W4 = y2.alloc (.cells #[.int .i64 0, .string ⟨#[]⟩, .int .i64 0, .slice none 0 0] 34) := ⟨_, rfl⟩
                    have hb4 : Below y2.heap.size y2 W4 := by rw [hW4]; exact new_on' _ _
                    have hx4 : W4.heap[y2.heap.size]? = some (.cells #[.int .i64 0, .string ⟨#[]⟩, .int .i64 0, .slice none 0 0] 34 (0, 0)) := by rw [hW4]; exact heap_alloc_new y2 _
                    obtain ⟨yc, hW5, hth5, hbk5, hbl5, hne5⟩ := put4 (w := y2) (z := #[.int .i64 0, .string ⟨#[]⟩, .int .i64 0, .slice none 0 0]) (vs := #[.int .i64 kc1, .string xc1, .int .i64 nc1, rc1]) rfl hx4 hb4 (Nat.le_refl _)
                    obtain ⟨bc, hbbc⟩ : ∃ b, b = y2.heap.size := ⟨_, rfl⟩
                    have HT5 := hideR hth5; have HW5 := hideR hW5
                    rw [← hbbc] at hbk5
                    have HXc := hideR hbk5
                    have HBB := hideR hbbc
                    have HSc := hideR (hs2.bel hbl5)
                    have HQc := hideR ((HQ1c.out.kvO hk2 HAQ.out HSD.out.1 HSD.out.2.2.1).bel hbl5)
                    have HWc := hideR (below_go (hk2.bel HW1c.out (fun k e => HLO.out k (HSD.out.2.2.1 k e))) hbl5)
                    have HATc := hideR (hat.bel hbl5)
                    have HZc := hideR hzc
                    have HSLc : Hid (∀ k, S k → k < bc) := hideR (fun k hk => by rw [hbbc]; exact Nat.lt_of_lt_of_le (HSL1.out k hk) hk2.size)
                    have HAT8 := hideR ((HAT81.out.kv hk2 HSD.out.2.2.1).bel hbl5)
                    have HXa8 := hideR ((hbl5.block _ (Nat.lt_of_lt_of_le (Array.getElem?_eq_some_iff.1 HXa81.out).1 hk2.size)).trans ((hk2.block _ (Array.getElem?_eq_some_iff.1 HXa81.out).1 (fun e => Nat.lt_irrefl _ (HSLa.out _ (HSD.out.2.2.1 _ e)))).trans HXa81.out))
                    clear hs2 hk2 hsaid hat hzc hb4 hx4 hth5 hbk5 hbl5 hne5 hW5 HAP1 HTK1 HW1c HQ1c HSL1 HAT81 HXa81
                    go_upto_region 27 with (first | (rw [← hW4]; refine wpList_store_mid rfl 34 (.tmp 22) (.tmp 162) rfl y2.heap.size 0 #[.int .i64 kc1, .string xc1, .int .i64 nc1, rc1] rfl rfl HT5.out sizeTy' (by simp [Value.oneCell'] at honec ⊢; exact honec) ?_; rw [HW5.out]) | fail)
                    rw [← HBB.out]
                    clear hW4 HT5 HW5 HBB hbbc
                    rw [HZc.out, ← HZ.out]
                    obtain ⟨dd, hV1, hV2⟩ := ap_two HAT8.out HATc.out
                    have HSM1 := hideR (t_dSame0 hV1 hV2)
                    clear hV1 hV2 HATc HAT8 HZc HSc HQc
                    have c0 := put_cell HXa8.out 0 _ rfl
                    have c1 := put_cell HXa8.out 1 _ rfl
                    have c2 := put_cell HXa8.out 2 _ rfl
                    have c3 := put_cell HXa8.out 3 _ rfl
                    have b0 := put_cell HXc.out 0 _ rfl
                    have b1 := put_cell HXc.out 1 _ rfl
                    have b2 := put_cell HXc.out 2 _ rfl
                    have b3 := put_cell HXc.out 3 _ rfl
                    have q4 : (z == z) = true := by simp
                    by_cases hzg : zg = 0
                    · have q5 : (zg == 0) = true := by simpa using hzg
                      clear hzg HAG
                      go_wp2_with fail
                      refine Calls.mono (show Calls _ _ _ _ _ from HSM1.out) ?_
                      rintro e w7 ⟨rfl, hb7⟩
                      have HW7 := hideR (below_go HWc.out hb7)
                      clear hb7 HSM1 HWc
                      have HWK := hideR (wakesC w7)
                      go_wp2_with fail
                      refine Calls.mono (show Calls _ _ _ _ _ from HWK.out) ?_
                      rintro e w9 ⟨rfl, hb9⟩
                      have HB9 := hideR (below_go HB.out (below_go HW7.out hb9))
                      clear hb9 HWK
                      go_wp2
                      go_ret
                      exact ⟨rfl, HB9.out⟩
                    · have q5 : (zg == 0) = false := by simpa using hzg
                      have q6 : (zg == 3) = true := by simpa using HAG.out.resolve_left hzg
                      clear hzg HAG
                      go_wp2_with fail
                      refine Calls.mono (show Calls _ _ _ _ _ from HSM1.out) ?_
                      rintro e w7 ⟨rfl, hb7⟩
                      have HW7 := hideR (below_go HWc.out hb7)
                      clear hb7 HSM1 HWc
                      have HWK := hideR (wakesC w7)
                      go_wp2_with fail
                      refine Calls.mono (show Calls _ _ _ _ _ from HWK.out) ?_
                      rintro e w9 ⟨rfl, hb9⟩
                      have HB9 := hideR (below_go HB.out (below_go HW7.out hb9))
                      clear hb9 HWK
                      go_wp2
                      go_ret
                      exact ⟨rfl, HB9.out⟩
          · have q1 : decide ((i : Int) < (l.length : Int)) = false := decide_eq_false (by omega)
            clear HE
            have HSX := hideR HSM.out.2
            have HGD := hideR HS.out.gd
            have HXT := hideR ((HW.out.block _ (Array.getElem?_eq_some_iff.1 HX.out).1).trans HX.out)
            have HC1 := hideR (fun (u9 : World) (hu : Below wr.heap.size wr u9) => t_copied d u9 A _ ((HVA.out.but (Abv.of HW.out)).but (Abv.of hu)) HFT.out.1)
            have HC2 := hideR (fun (u9 : World) (hu : Below wr.heap.size wr u9) => t_copied d u9 B _ ((HVB.out.but (Abv.of HW.out)).but (Abv.of hu)) HFT.out.2)
            go_upto_region 13 with fail
            obtain ⟨TL, hTL⟩ : ∃ TL : List Value, TL = [.pointer (some ⟨p, 0, none⟩), .pointer (some ⟨w.heap.size, 0, none⟩), .agg #[.int .i64 ka, .string xa, .int .i64 na, ua], undef, .pointer (some ⟨w.heap.size, 4, none⟩), .agg #[.int .i64 kb, .string xb, .int .i64 nb, ub], undef] := ⟨_, rfl⟩
            have HTL := hideR hTL
            clear hTL
            refine Reg.wp_region_two 7 (fun j => 85 + j) (fun j v u => if j = 3 then tyO wr.heap.size A v u else if j = 6 then tyO wr.heap.size B v u else v = TL.getD j undef) (by kernel_rfl) (by kernel_rfl) (fun i1 i2 h1 h2 h => by have h' : 85 + i1 = 85 + i2 := h; omega) (Reg.dst_ok (dst := fun j => 85 + j) (size := 183) (by kernel_rfl)) (fun j v u u' _ h hb => by
                by_cases h3 : j = 3
                · rw [if_pos h3] at h ⊢; exact h.on (Abv.lo (Abv.of hb) (Nat.zero_le _)) (Nat.le_refl _)
                · rw [if_neg h3] at h ⊢
                  by_cases h5 : j = 6
                  · rw [if_pos h5] at h ⊢; exact h.on (Abv.lo (Abv.of hb) (Nat.zero_le _)) (Nat.le_refl _)
                  · rw [if_neg h5] at h ⊢; exact h) ?hs6 ?ht6
            case hs6 =>
              intro j o' a9 u9 hj ho hF hB hd
              have f5 : a9.tmps[5]?.getD undef = .pointer (some ⟨w.heap.size, 0, none⟩) := Reg.ev_get (hF.eval 5 (fun i hi => by show 85 + i ≠ 5; omega))
              have f8 : a9.tmps[8]?.getD undef = .pointer (some ⟨p, 0, none⟩) := Reg.ev_get (hF.eval 8 (fun i hi => by show 85 + i ≠ 8; omega))
              have hxx := (hB.block _ (Array.getElem?_eq_some_iff.1 HXT.out).1).trans HXT.out
              have g0 := put_cell hxx 0 _ rfl
              have g1 := put_cell hxx 1 _ rfl
              have g2 := put_cell hxx 2 _ rfl
              have g3 := put_cell hxx 3 _ rfl
              have l0 := put_cell hxx 4 _ rfl
              have l1 := put_cell hxx 5 _ rfl
              have l2 := put_cell hxx 6 _ rfl
              have l3 := put_cell hxx 7 _ rfl
              clear hxx
              have HCA := hideR (HC1.out u9 hB)
              have HCB := hideR (HC2.out u9 hB)
              have hsz := hB.size
              have hd2 : ∀ j2 ∈ Reg.deps o', j2 ≠ 3 → j2 ≠ 6 → a9.tmps[85 + j2]?.getD undef = TL.getD j2 undef := fun j2 hj2 h3 h5 => by
                have h := hd j2 hj2
                rw [if_neg h3, if_neg h5] at h
                exact Reg.ev_get h
              have hTL := HTL.out
              subst hTL
              clear hd
              rcases (by omega : j = 3 ∨ j = 6 ∨ (j ≠ 3 ∧ j ≠ 6)) with rfl | rfl | hn6
              · simp only [List.getElem?_toArray, List.getElem?_cons_succ, List.getElem?_cons_zero, Option.some.injEq] at ho
                subst ho
                refine Reg.step_k fun Z9 hZ => ?_
                simp [Reg.deps, Region.binds] at hd2
                go_simp
                refine Calls.mono (show Calls _ _ _ _ _ from HCA.out) ?_
                rintro e w' ⟨v9, rfl, h1, h2⟩
                exact hZ _ _ ⟨_, rfl, h1, h2.on (fun _ _ _ => rfl) hsz⟩
              · simp only [List.getElem?_toArray, List.getElem?_cons_succ, List.getElem?_cons_zero, Option.some.injEq] at ho
                subst ho
                refine Reg.step_k fun Z9 hZ => ?_
                simp [Reg.deps, Region.binds] at hd2
                go_simp
                refine Calls.mono (show Calls _ _ _ _ _ from HCB.out) ?_
                rintro e w' ⟨v9, rfl, h1, h2⟩
                exact hZ _ _ ⟨_, rfl, h1, h2.on (fun _ _ _ => rfl) hsz⟩
              · clear HCA HCB
                rcases (by omega : j = 0 ∨ j = 1 ∨ j = 2 ∨ j = 3 ∨ j = 4 ∨ j = 5 ∨ j = 6) with rfl | rfl | rfl | rfl | rfl | rfl | rfl
                all_goals (
                  simp only [List.getElem?_toArray, List.getElem?_cons_succ, List.getElem?_cons_zero, Option.some.injEq] at ho
                  subst ho
                  first
                  | exact absurd rfl hn6.1
                  | exact absurd rfl hn6.2
                  | (refine Reg.step_k fun Z9 hZ => ?_
                     clear hn6
                     simp [Reg.deps, Region.binds] at hd2
                     go_simp
                     first
                     | exact hZ _ _ ⟨_, rfl, Below.refl _ _, rfl⟩
                     | exact hZ _ _ ⟨_, rfl, Below.refl _ _, by simp [*]⟩))
            case ht6 =>
              intro a9 u9 hF hB hG
              obtain ⟨xl, hxl, rfl, hev⟩ := hF.lit (by simp)
              obtain ⟨s0, s1, s2, s3, s4, s5, s6, rfl⟩ := plen7 hxl
              have h0 := hG 0 (by decide)
              rw [if_neg (by decide), if_neg (by decide), HTL.out] at h0
              obtain rfl : s0 = .pointer (some ⟨p, 0, none⟩) := (hev 0 (by decide)).symm.trans h0
              have hc1 := hG 3 (by decide)
              have hc2 := hG 6 (by decide)
              rw [if_pos rfl, show _ = s3 from hev 3 (by decide)] at hc1
              rw [if_neg (by decide), if_pos rfl, show _ = s6 from hev 6 (by decide)] at hc2
              obtain ⟨q1', hq1, hI1⟩ := InX.of2 (S := fun _ => False) hc1 (fun _ _ h => h) HFT.out.1 HSX.out.1
              obtain ⟨q2', hq2, hI2⟩ := InX.of2 (S := fun _ => False) hc2 (fun _ _ h => h) HFT.out.2 HSX.out.2
              have hs9 := HS.out.bel hB
              have hq9 := HQ.out.bel hB
              have HU := hideR (t_UnifyP HM.out.1 HM.out.2 u9 hs9 (HSL.out _ _ u9 hs9 hq9) hI1.in_ hI2.in_)
              have HQ9 := hideR hq9
              have HW9 := hideR (below_go HW.out hB)
              have HQQ := hideR (And.intro hq1 hq2)
              have HGP := hideR (And.intro (fun (g : tkT n d A = true) => (⟨_, hI1.gp ((tk_few HFT.out.1 hq1).trans g)⟩ : Gt n A)) (fun (g : tkT n d B = true) => (⟨_, hI2.gp ((tk_few HFT.out.2 hq2).trans g)⟩ : Gt n B)))
              clear hev hxl hF hG hB h0 hc1 hc2 hI1 hI2 hs9 hq9 hq1 hq2 HC1 HC2 HXT HS HQ HW HTL
              simp only [List.take_succ_cons, List.take_zero, List.drop_succ_cons, List.drop_zero, List.cons_append, List.nil_append]
              go_wp2_with fail
              refine Calls.mono (show Calls _ _ _ _ _ from HU.out) ?_
              rintro e u3 ⟨hsaid, hk3⟩
              obtain ⟨rfl, hs3⟩ := unP_said HFT.out.1 HFT.out.2 HQQ.out.1 HQQ.out.2 hsaid
              have HS3 := hideR hs3
              have HQ3 := hideR (HQ9.out.kvO hk3 HAQ.out HSD.out.1 HSD.out.2.2.1)
              have HW3 := hideR (hk3.bel HW9.out (fun k e => HLO.out k (HSD.out.2.2.1 k e)))
              clear hsaid hk3 hs3 HU HW9 HQ9 HQQ
              have HCS := hideR (sm_cases (m := m) (f := f) HGD.out HAC.out HGP.out.1 HGP.out.2)
              have HA3 := hideR (nx_ac (m := m) (f := f) HGD.out HAC.out HGP.out.1 HGP.out.2)
              obtain ⟨ze, hze⟩ : ∃ ze, ze = nxZ m f n d h A B := ⟨_, rfl⟩
              rw [← hze] at HCS ⊢
              clear hze HGP HGD HAC HSX
              have HSX := hideR (And.intro HSM.out.2.2 HSM.out.2.1)
              have HFU := hideR (And.intro HFT.out.2 HFT.out.1)
              have HXT := hideR ((HW3.out.block _ (Array.getElem?_eq_some_iff.1 HX.out).1).trans HX.out)
              have HC1 := hideR (fun (u9 : World) (hu : Below u3.heap.size u3 u9) => t_copied d u9 A _ ((HVA.out.but (Abv.of HW3.out)).but (Abv.of hu)) HFT.out.1)
              have HC2 := hideR (fun (u9 : World) (hu : Below u3.heap.size u3 u9) => t_copied d u9 B _ ((HVB.out.but (Abv.of HW3.out)).but (Abv.of hu)) HFT.out.2)
              go_upto_region 14 with fail
              obtain ⟨TL, hTL⟩ : ∃ TL : List Value, TL = [.pointer (some ⟨q, 0, none⟩), .pointer (some ⟨w.heap.size, 4, none⟩), .agg #[.int .i64 kb, .string xb, .int .i64 nb, ub], undef, .pointer (some ⟨w.heap.size, 0, none⟩), .agg #[.int .i64 ka, .string xa, .int .i64 na, ua], undef] := ⟨_, rfl⟩
              have HTL := hideR hTL
              clear hTL
              refine Reg.wp_region_two 7 (fun j => 93 + j) (fun j v u => if j = 3 then tyO u3.heap.size B v u else if j = 6 then tyO u3.heap.size A v u else v = TL.getD j undef) (by kernel_rfl) (by kernel_rfl) (fun i1 i2 h1 h2 h => by have h' : 93 + i1 = 93 + i2 := h; omega) (Reg.dst_ok (dst := fun j => 93 + j) (size := 183) (by kernel_rfl)) (fun j v u u' _ h hb => by
                  by_cases h3 : j = 3
                  · rw [if_pos h3] at h ⊢; exact h.on (Abv.lo (Abv.of hb) (Nat.zero_le _)) (Nat.le_refl _)
                  · rw [if_neg h3] at h ⊢
                    by_cases h5 : j = 6
                    · rw [if_pos h5] at h ⊢; exact h.on (Abv.lo (Abv.of hb) (Nat.zero_le _)) (Nat.le_refl _)
                    · rw [if_neg h5] at h ⊢; exact h) ?hs7 ?ht7
              case hs7 =>
                intro j o' a9 u9 hj ho hF hB hd
                have f5 : a9.tmps[5]?.getD undef = .pointer (some ⟨w.heap.size, 0, none⟩) := Reg.ev_get (hF.eval 5 (fun i hi => by show 93 + i ≠ 5; omega))
                have f10 : a9.tmps[10]?.getD undef = .pointer (some ⟨q, 0, none⟩) := Reg.ev_get (hF.eval 10 (fun i hi => by show 93 + i ≠ 10; omega))
                have hxx := (hB.block _ (Array.getElem?_eq_some_iff.1 HXT.out).1).trans HXT.out
                have g0 := put_cell hxx 0 _ rfl
                have g1 := put_cell hxx 1 _ rfl
                have g2 := put_cell hxx 2 _ rfl
                have g3 := put_cell hxx 3 _ rfl
                have l0 := put_cell hxx 4 _ rfl
                have l1 := put_cell hxx 5 _ rfl
                have l2 := put_cell hxx 6 _ rfl
                have l3 := put_cell hxx 7 _ rfl
                clear hxx
                have HCA := hideR (HC2.out u9 hB)
                have HCB := hideR (HC1.out u9 hB)
                have hsz := hB.size
                have hd2 : ∀ j2 ∈ Reg.deps o', j2 ≠ 3 → j2 ≠ 6 → a9.tmps[93 + j2]?.getD undef = TL.getD j2 undef := fun j2 hj2 h3 h5 => by
                  have h := hd j2 hj2
                  rw [if_neg h3, if_neg h5] at h
                  exact Reg.ev_get h
                have hTL := HTL.out
                subst hTL
                clear hd
                rcases (by omega : j = 3 ∨ j = 6 ∨ (j ≠ 3 ∧ j ≠ 6)) with rfl | rfl | hn6
                · simp only [List.getElem?_toArray, List.getElem?_cons_succ, List.getElem?_cons_zero, Option.some.injEq] at ho
                  subst ho
                  refine Reg.step_k fun Z9 hZ => ?_
                  simp [Reg.deps, Region.binds] at hd2
                  go_simp
                  refine Calls.mono (show Calls _ _ _ _ _ from HCA.out) ?_
                  rintro e w' ⟨v9, rfl, h1, h2⟩
                  exact hZ _ _ ⟨_, rfl, h1, h2.on (fun _ _ _ => rfl) hsz⟩
                · simp only [List.getElem?_toArray, List.getElem?_cons_succ, List.getElem?_cons_zero, Option.some.injEq] at ho
                  subst ho
                  refine Reg.step_k fun Z9 hZ => ?_
                  simp [Reg.deps, Region.binds] at hd2
                  go_simp
                  refine Calls.mono (show Calls _ _ _ _ _ from HCB.out) ?_
                  rintro e w' ⟨v9, rfl, h1, h2⟩
                  exact hZ _ _ ⟨_, rfl, h1, h2.on (fun _ _ _ => rfl) hsz⟩
                · clear HCA HCB
                  rcases (by omega : j = 0 ∨ j = 1 ∨ j = 2 ∨ j = 3 ∨ j = 4 ∨ j = 5 ∨ j = 6) with rfl | rfl | rfl | rfl | rfl | rfl | rfl
                  all_goals (
                    simp only [List.getElem?_toArray, List.getElem?_cons_succ, List.getElem?_cons_zero, Option.some.injEq] at ho
                    subst ho
                    first
                    | exact absurd rfl hn6.1
                    | exact absurd rfl hn6.2
                    | (refine Reg.step_k fun Z9 hZ => ?_
                       clear hn6
                       simp [Reg.deps, Region.binds] at hd2
                       go_simp
                       first
                       | exact hZ _ _ ⟨_, rfl, Below.refl _ _, rfl⟩
                       | exact hZ _ _ ⟨_, rfl, Below.refl _ _, by simp [*]⟩))
              case ht7 =>
                intro a9 u9 hF hB hG
                obtain ⟨xl, hxl, rfl, hev⟩ := hF.lit (by simp)
                obtain ⟨s0, s1, s2, s3, s4, s5, s6, rfl⟩ := plen7 hxl
                have h0 := hG 0 (by decide)
                rw [if_neg (by decide), if_neg (by decide), HTL.out] at h0
                obtain rfl : s0 = .pointer (some ⟨q, 0, none⟩) := (hev 0 (by decide)).symm.trans h0
                have hc1 := hG 3 (by decide)
                have hc2 := hG 6 (by decide)
                rw [if_pos rfl, show _ = s3 from hev 3 (by decide)] at hc1
                rw [if_neg (by decide), if_pos rfl, show _ = s6 from hev 6 (by decide)] at hc2
                obtain ⟨q1', hq1, hI1⟩ := InX.of2 (S := fun _ => False) hc1 (fun _ _ h => h) HFU.out.1 HSX.out.1
                obtain ⟨q2', hq2, hI2⟩ := InX.of2 (S := fun _ => False) hc2 (fun _ _ h => h) HFU.out.2 HSX.out.2
                have hs9 := HS3.out.bel hB
                have hq9 := HQ3.out.bel hB
                have HU := hideR (t_UnifyP HM.out.1 HM.out.2 u9 hq9 (HSL.out _ _ u9 hs9 hq9) hI1.in_ hI2.in_)
                have HS9 := hideR hs9
                have HW9 := hideR (below_go HW3.out hB)
                have HQQ := hideR (And.intro hq1 hq2)
                clear hev hxl hF hG hB h0 hc1 hc2 hI1 hI2 hs9 hq9 hq1 hq2 HC1 HC2 HXT HS3 HQ3 HW3 HTL
                simp only [List.take_succ_cons, List.take_zero, List.drop_succ_cons, List.drop_zero, List.cons_append, List.nil_append]
                go_wp2_with fail
                refine Calls.mono (show Calls _ _ _ _ _ from HU.out) ?_
                rintro e u4 ⟨hsaid, hk3⟩
                obtain ⟨rfl, hq3⟩ := unP_said HFU.out.1 HFU.out.2 HQQ.out.1 HQQ.out.2 hsaid
                have HQ4 := hideR hq3
                have HS4 := hideR (HS9.out.kvO hk3 HAP.out HSD.out.2.1 HSD.out.2.2.2)
                have HW4 := hideR (hk3.bel HW9.out (fun k e => HLO.out k (HSD.out.2.2.2 k e)))
                clear hsaid hk3 hq3 HU HW9 HS9 HQQ
                obtain ⟨zf, hzf⟩ : ∃ zf, zf = nxZ m f n d h B A := ⟨_, rfl⟩
                rw [← hzf] at HCS ⊢
                clear hzf HSX HFU
                rcases HCS.out with h1 | ⟨h1, h2⟩ | ⟨h1, h2, h3, h4, h5⟩ | ⟨h1, h2, h3, h4, h5, h6, h7⟩
                · have q3 : (ze == 3) = true := by simpa using h1
                  clear HCS h1 HS4 HQ4 HA3
                  have HWK := hideR (wakesC u4)
                  go_wp2_with fail
                  refine Calls.mono (show Calls _ _ _ _ _ from HWK.out) ?_
                  rintro e w9 ⟨rfl, hb9⟩
                  have HB9 := hideR (below_go HB.out (below_go HW4.out hb9))
                  clear hb9 HWK
                  go_wp2
                  go_ret
                  exact ⟨rfl, HB9.out⟩
                · have q3 : (ze == 3) = false := by simpa using h1
                  have q4 : (zf == 3) = true := by simpa using h2
                  clear HCS h1 h2 HS4 HQ4 HA3
                  have HWK := hideR (wakesC u4)
                  go_wp2_with fail
                  refine Calls.mono (show Calls _ _ _ _ _ from HWK.out) ?_
                  rintro e w9 ⟨rfl, hb9⟩
                  have HB9 := hideR (below_go HB.out (below_go HW4.out hb9))
                  clear hb9 HWK
                  go_wp2
                  go_ret
                  exact ⟨rfl, HB9.out⟩
                · have q3 : (ze == 3) = false := by simpa using h1
                  have q4 : (zf == 3) = false := by simpa using h2
                  have q5 : (ze == 0) = false := by simpa using h3
                  have q6 : (zf == 0) = false := by simpa using h4
                  have q7 : (ze != 0) = true := bne_iff_ne.2 h3
                  by_cases h8 : ze = 1
                  · have q8 : (ze == 1) = true := by simpa using h8
                    have q9 : (zf == 1) = true := by simpa using h5.1 h8
                    clear HCS h1 h2 h3 h4 h5 h8 HS4 HQ4 HA3
                    have HWK := hideR (wakesC u4)
                    go_wp2_with fail
                    refine Calls.mono (show Calls _ _ _ _ _ from HWK.out) ?_
                    rintro e w9 ⟨rfl, hb9⟩
                    have HB9 := hideR (below_go HB.out (below_go HW4.out hb9))
                    clear hb9 HWK
                    go_wp2
                    go_ret
                    exact ⟨rfl, HB9.out⟩
                  · have q8 : (ze == 1) = false := by simpa using h8
                    have q9 : (zf == 1) = false := by simpa using fun e => h8 (h5.2 e)
                    clear HCS h1 h2 h3 h4 h5 h8 HS4 HQ4 HA3
                    have HWK := hideR (wakesC u4)
                    go_wp2_with fail
                    refine Calls.mono (show Calls _ _ _ _ _ from HWK.out) ?_
                    rintro e w9 ⟨rfl, hb9⟩
                    have HB9 := hideR (below_go HB.out (below_go HW4.out hb9))
                    clear hb9 HWK
                    go_wp2
                    go_ret
                    exact ⟨rfl, HB9.out⟩
                · clear HCS
                  subst h1 h2
                  have HTT := hideR (And.intro h3 (And.intro h4 (And.intro h5 (And.intro h6 h7))))
                  clear h3 h4 h5 h6 h7
                  obtain ⟨hh, hhh⟩ : ∃ hh, hh = nxH m f n d h A B := ⟨_, rfl⟩
                  obtain ⟨hk, hhk⟩ : ∃ hk, hk = nxH m f n d h B A := ⟨_, rfl⟩
                  rw [← hhh] at HS4 HA3 HTT
                  rw [← hhk] at HQ4
                  clear hhh hhk
                  have HGH := hideR HS4.out.gd
                  go_upto_region 21 with fail
                  have HXT := hideR ((HW4.out.block _ (Array.getElem?_eq_some_iff.1 HX.out).1).trans HX.out)
                  have g0 := put_cell HXT.out 0 _ rfl
                  have g1 := put_cell HXT.out 1 _ rfl
                  have g2 := put_cell HXT.out 2 _ rfl
                  have g3 := put_cell HXT.out 3 _ rfl
                  have HC1 := hideR (t_copied d u4 A _ (HVA.out.but (Abv.of HW4.out)) HFT.out.1)
                  have HSLR := hideR (HSL.out _ _ u4 HS4.out HQ4.out)
                  go_wp2_with fail
                  refine Calls.mono (show Calls _ _ _ _ _ from HC1.out) ?_
                  rintro e y1 ⟨v1, rfl, hb1, hty1⟩
                  have hs1 := HS4.out.bel hb1
                  obtain ⟨q1', hq1, hI1⟩ := InX.of2 (S := S) hty1 (fun k hk hs => by have := HSLR.out k hs; omega) HFT.out.1 HSM.out.2.1
                  have hsl1 : ∀ k, S k → k < y1.heap.size := fun k hk => Nat.lt_of_lt_of_le (HSLR.out k hk) hb1.size
                  have HAP1 := hideR (t_ApplyP HM.out.1 y1 hs1 hsl1 hI1)
                  have HTK1 : Hid (tkT n q1' A = true) := hideR ((tk_few HFT.out.1 hq1).trans HTT.out.1)
                  have HSL1 := hideR hsl1
                  have HW1a := hideR (below_go HW4.out hb1)
                  have HQ1a := hideR (HQ4.out.bel hb1)
                  clear hb1 hty1 hs1 hsl1 hq1 hI1 HC1 HSLR HS4 HQ4 HW4 g0 g1 g2 g3 HXT
                  go_wp2_with fail
                  refine Calls.mono (show Calls _ _ _ _ _ from HAP1.out) ?_
                  rintro e y2 ⟨va, za, rfl, hs2, hk2, hsaid⟩
                  obtain ⟨hza, dAa, hat⟩ := ap_val HTK1.out HSL1.out hsaid
                  obtain ⟨ka1, xa1, na1, ra1, rfl, honea⟩ := hat.val
                  obtain ⟨W4, hW4⟩ : ∃ W4, W4 = y2.alloc (.cells #[.int .i64 0, .string ⟨#[]⟩, .int .i64 0, .slice none 0 0] 34) := ⟨_, rfl⟩
                  have hb4 : Below y2.heap.size y2 W4 := by rw [hW4]; exact new_on' _ _
                  have hx4 : W4.heap[y2.heap.size]? = some (.cells #[.int .i64 0, .string ⟨#[]⟩, .int .i64 0, .slice none 0 0] 34 (0, 0)) := by rw [hW4]; exact heap_alloc_new y2 _
                  obtain ⟨ya, hW5, hth5, hbk5, hbl5, hne5⟩ := put4 (w := y2) (z := #[.int .i64 0, .string ⟨#[]⟩, .int .i64 0, .slice none 0 0]) (vs := #[.int .i64 ka1, .string xa1, .int .i64 na1, ra1]) rfl hx4 hb4 (Nat.le_refl _)
                  obtain ⟨ba, hbba⟩ : ∃ b, b = y2.heap.size := ⟨_, rfl⟩
                  have HT5 := hideR hth5; have HW5 := hideR hW5
                  rw [← hbba] at hbk5
                  have HXa := hideR hbk5
                  have HBB := hideR hbba
                  have HSa := hideR (hs2.bel hbl5)
                  have HQa := hideR ((HQ1a.out.kvO hk2 HAQ.out HSD.out.1 HSD.out.2.2.1).bel hbl5)
                  have HWa := hideR (below_go (hk2.bel HW1a.out (fun k e => HLO.out k (HSD.out.2.2.1 k e))) hbl5)
                  have HATa := hideR (hat.bel hbl5)
                  have HZa := hideR hza
                  have HSLa : Hid (∀ k, S k → k < ba) := hideR (fun k hk => by rw [hbba]; exact Nat.lt_of_lt_of_le (HSL1.out k hk) hk2.size)
                  clear hs2 hk2 hsaid hat hza hb4 hx4 hth5 hbk5 hbl5 hne5 hW5 HAP1 HTK1 HW1a HQ1a HSL1
                  go_upto_region 22 with (first | (rw [← hW4]; refine wpList_store_mid rfl 34 (.tmp 17) (.tmp 129) rfl y2.heap.size 0 #[.int .i64 ka1, .string xa1, .int .i64 na1, ra1] rfl rfl HT5.out sizeTy' (by simp [Value.oneCell'] at honea ⊢; exact honea) ?_; rw [HW5.out]) | fail)
                  rw [← HBB.out]
                  clear hW4 HT5 HW5 HBB hbba
                  have HXT := hideR ((HWa.out.block _ (Array.getElem?_eq_some_iff.1 HX.out).1).trans HX.out)
                  have g0 := put_cell HXT.out 4 _ rfl
                  have g1 := put_cell HXT.out 5 _ rfl
                  have g2 := put_cell HXT.out 6 _ rfl
                  have g3 := put_cell HXT.out 7 _ rfl
                  have HC1 := hideR (t_copied d ya B _ (HVB.out.but (Abv.of HWa.out)) HFT.out.2)
                  have HSLR := hideR (HSL.out _ _ ya HSa.out HQa.out)
                  go_wp2_with fail
                  refine Calls.mono (show Calls _ _ _ _ _ from HC1.out) ?_
                  rintro e y1 ⟨v1, rfl, hb1, hty1⟩
                  have hs1 := HSa.out.bel hb1
                  obtain ⟨q1', hq1, hI1⟩ := InX.of2 (S := S) hty1 (fun k hk hs => by have := HSLR.out k hs; omega) HFT.out.2 HSM.out.2.2
                  have hsl1 : ∀ k, S k → k < y1.heap.size := fun k hk => Nat.lt_of_lt_of_le (HSLR.out k hk) hb1.size
                  have HAP1 := hideR (t_ApplyP HM.out.1 y1 hs1 hsl1 hI1)
                  have HTK1 : Hid (tkT n q1' B = true) := hideR ((tk_few HFT.out.2 hq1).trans HTT.out.2.1)
                  have HSL1 := hideR hsl1
                  have HW1b := hideR (below_go HWa.out hb1)
                  have HQ1b := hideR (HQa.out.bel hb1)
                  have HATa1 := hideR (HATa.out.bel hb1)
                  have HXa1 := hideR ((hb1.block _ (Array.getElem?_eq_some_iff.1 HXa.out).1).trans HXa.out)
                  clear hb1 hty1 hs1 hsl1 hq1 hI1 HC1 HSLR HSa HQa HWa g0 g1 g2 g3 HXT HATa HXa
                  go_wp2_with fail
                  refine Calls.mono (show Calls _ _ _ _ _ from HAP1.out) ?_
                  rintro e y2 ⟨va, za, rfl, hs2, hk2, hsaid⟩
                  obtain ⟨hzb, dAb, hat⟩ := ap_val HTK1.out HSL1.out hsaid
                  obtain ⟨kb1, xb1, nb1, rb1, rfl, honeb⟩ := hat.val
                  obtain ⟨W4, hW4⟩ : ∃ W4, W4 = y2.alloc (.cells #[.int .i64 0, .string ⟨#[]⟩, .int .i64 0, .slice none 0 0] 34) := ⟨_, rfl⟩
                  have hb4 : Below y2.heap.size y2 W4 := by rw [hW4]; exact new_on' _ _
                  have hx4 : W4.heap[y2.heap.size]? = some (.cells #[.int .i64 0, .string ⟨#[]⟩, .int .i64 0, .slice none 0 0] 34 (0, 0)) := by rw [hW4]; exact heap_alloc_new y2 _
                  obtain ⟨yb, hW5, hth5, hbk5, hbl5, hne5⟩ := put4 (w := y2) (z := #[.int .i64 0, .string ⟨#[]⟩, .int .i64 0, .slice none 0 0]) (vs := #[.int .i64 kb1, .string xb1, .int .i64 nb1, rb1]) rfl hx4 hb4 (Nat.le_refl _)
                  obtain ⟨bb, hbbb⟩ : ∃ b, b = y2.heap.size := ⟨_, rfl⟩
                  have HT5 := hideR hth5; have HW5 := hideR hW5
                  rw [← hbbb] at hbk5
                  have HXb := hideR hbk5
                  have HBB := hideR hbbb
                  have HSb := hideR (hs2.bel hbl5)
                  have HQb := hideR ((HQ1b.out.kvO hk2 HAQ.out HSD.out.1 HSD.out.2.2.1).bel hbl5)
                  have HWb := hideR (below_go (hk2.bel HW1b.out (fun k e => HLO.out k (HSD.out.2.2.1 k e))) hbl5)
                  have HATb := hideR (hat.bel hbl5)
                  have HZb := hideR hzb
                  have HSLb : Hid (∀ k, S k → k < bb) := hideR (fun k hk => by rw [hbbb]; exact Nat.lt_of_lt_of_le (HSL1.out k hk) hk2.size)
                  have HATa := hideR ((HATa1.out.kv hk2 HSD.out.2.2.1).bel hbl5)
                  have HXa := hideR ((hbl5.block _ (Nat.lt_of_lt_of_le (Array.getElem?_eq_some_iff.1 HXa1.out).1 hk2.size)).trans ((hk2.block _ (Array.getElem?_eq_some_iff.1 HXa1.out).1 (fun e => Nat.lt_irrefl _ (HSLa.out _ (HSD.out.2.2.1 _ e)))).trans HXa1.out))
                  clear hs2 hk2 hsaid hat hzb hb4 hx4 hth5 hbk5 hbl5 hne5 hW5 HAP1 HTK1 HW1b HQ1b HSL1 HATa1 HXa1
                  go_upto_region 23 with (first | (rw [← hW4]; refine wpList_store_mid rfl 34 (.tmp 19) (.tmp 137) rfl y2.heap.size 0 #[.int .i64 kb1, .string xb1, .int .i64 nb1, rb1] rfl rfl HT5.out sizeTy' (by simp [Value.oneCell'] at honeb ⊢; exact honeb) ?_; rw [HW5.out]) | fail)
                  rw [← HBB.out]
                  clear hW4 HT5 HW5 HBB hbbb
                  have HEQ := hideR (ap_eq (m := m) HTT.out.2.2.2.2)
                  obtain ⟨z, hz⟩ : ∃ z, z = (lkT hh 0 m 0 A).1 := ⟨_, rfl⟩
                  have hzb : (lkT hh 0 m 0 B).1 = z := by rw [hz]; exact HEQ.out.2.symm
                  have HZ := hideR hz
                  rw [HZa.out, HZb.out, hzb, ← hz]
                  clear hz hzb
                  have q3 : (z != z) = false := by simp
                  have HAB : Hid (AtX S yb dAb (apX hh m A) (.agg #[.int .i64 kb1, .string xb1, .int .i64 nb1, rb1])) := hideR (by rw [HEQ.out.1]; exact HATb.out)
                  obtain ⟨dd, hV1, hV2⟩ := ap_two HATa.out HAB.out
                  have HSM1 := hideR (t_dSame0 hV1 hV2)
                  clear hV1 hV2 HAB HATb HZa HZb
                  have c0 := put_cell HXa.out 0 _ rfl
                  have c1 := put_cell HXa.out 1 _ rfl
                  have c2 := put_cell HXa.out 2 _ rfl
                  have c3 := put_cell HXa.out 3 _ rfl
                  have b0 := put_cell HXb.out 0 _ rfl
                  have b1 := put_cell HXb.out 1 _ rfl
                  have b2 := put_cell HXb.out 2 _ rfl
                  have b3 := put_cell HXb.out 3 _ rfl
                  go_wp2_with fail
                  refine Calls.mono (show Calls _ _ _ _ _ from HSM1.out) ?_
                  rintro e w6 ⟨rfl, hb6⟩
                  have HS6 := hideR (HSb.out.bel hb6)
                  have HQ6 := hideR (HQb.out.bel hb6)
                  have HW6 := hideR (below_go HWb.out hb6)
                  have HAT6 := hideR (HATa.out.bel hb6)
                  have HXa6 := hideR ((hb6.block _ (Array.getElem?_eq_some_iff.1 HXa.out).1).trans HXa.out)
                  clear hb6 HSM1 HSb HQb HWb HATa HXa HXb c0 c1 c2 c3 b0 b1 b2 b3
                  have HSX := hideR HSM.out.2
                  have HXT := hideR ((HW6.out.block _ (Array.getElem?_eq_some_iff.1 HX.out).1).trans HX.out)
                  have HC1 := hideR (fun (u9 : World) (hu : Below w6.heap.size w6 u9) => t_copied d u9 A _ ((HVA.out.but (Abv.of HW6.out)).but (Abv.of hu)) HFT.out.1)
                  have HC2 := hideR (fun (u9 : World) (hu : Below w6.heap.size w6 u9) => t_copied d u9 B _ ((HVB.out.but (Abv.of HW6.out)).but (Abv.of hu)) HFT.out.2)
                  go_upto_region 25 with fail
                  obtain ⟨TL, hTL⟩ : ∃ TL : List Value, TL = [.pointer (some ⟨p, 0, none⟩), .pointer (some ⟨w.heap.size, 0, none⟩), .agg #[.int .i64 ka, .string xa, .int .i64 na, ua], undef, .pointer (some ⟨w.heap.size, 4, none⟩), .agg #[.int .i64 kb, .string xb, .int .i64 nb, ub], undef] := ⟨_, rfl⟩
                  have HTL := hideR hTL
                  clear hTL
                  refine Reg.wp_region_two 7 (fun j => 148 + j) (fun j v u => if j = 3 then tyO w6.heap.size A v u else if j = 6 then tyO w6.heap.size B v u else v = TL.getD j undef) (by kernel_rfl) (by kernel_rfl) (fun i1 i2 h1 h2 h => by have h' : 148 + i1 = 148 + i2 := h; omega) (Reg.dst_ok (dst := fun j => 148 + j) (size := 183) (by kernel_rfl)) (fun j v u u' _ h hb => by
                      by_cases h3 : j = 3
                      · rw [if_pos h3] at h ⊢; exact h.on (Abv.lo (Abv.of hb) (Nat.zero_le _)) (Nat.le_refl _)
                      · rw [if_neg h3] at h ⊢
                        by_cases h5 : j = 6
                        · rw [if_pos h5] at h ⊢; exact h.on (Abv.lo (Abv.of hb) (Nat.zero_le _)) (Nat.le_refl _)
                        · rw [if_neg h5] at h ⊢; exact h) ?hs8 ?ht8
                  case hs8 =>
                    intro j o' a9 u9 hj ho hF hB hd
                    have f5 : a9.tmps[5]?.getD undef = .pointer (some ⟨w.heap.size, 0, none⟩) := Reg.ev_get (hF.eval 5 (fun i hi => by show 148 + i ≠ 5; omega))
                    have f8 : a9.tmps[8]?.getD undef = .pointer (some ⟨p, 0, none⟩) := Reg.ev_get (hF.eval 8 (fun i hi => by show 148 + i ≠ 8; omega))
                    have hxx := (hB.block _ (Array.getElem?_eq_some_iff.1 HXT.out).1).trans HXT.out
                    have g0 := put_cell hxx 0 _ rfl
                    have g1 := put_cell hxx 1 _ rfl
                    have g2 := put_cell hxx 2 _ rfl
                    have g3 := put_cell hxx 3 _ rfl
                    have l0 := put_cell hxx 4 _ rfl
                    have l1 := put_cell hxx 5 _ rfl
                    have l2 := put_cell hxx 6 _ rfl
                    have l3 := put_cell hxx 7 _ rfl
                    clear hxx
                    have HCA := hideR (HC1.out u9 hB)
                    have HCB := hideR (HC2.out u9 hB)
                    have hsz := hB.size
                    have hd2 : ∀ j2 ∈ Reg.deps o', j2 ≠ 3 → j2 ≠ 6 → a9.tmps[148 + j2]?.getD undef = TL.getD j2 undef := fun j2 hj2 h3 h5 => by
                      have h := hd j2 hj2
                      rw [if_neg h3, if_neg h5] at h
                      exact Reg.ev_get h
                    have hTL := HTL.out
                    subst hTL
                    clear hd
                    rcases (by omega : j = 3 ∨ j = 6 ∨ (j ≠ 3 ∧ j ≠ 6)) with rfl | rfl | hn6
                    · simp only [List.getElem?_toArray, List.getElem?_cons_succ, List.getElem?_cons_zero, Option.some.injEq] at ho
                      subst ho
                      refine Reg.step_k fun Z9 hZ => ?_
                      simp [Reg.deps, Region.binds] at hd2
                      go_simp
                      refine Calls.mono (show Calls _ _ _ _ _ from HCA.out) ?_
                      rintro e w' ⟨v9, rfl, h1, h2⟩
                      exact hZ _ _ ⟨_, rfl, h1, h2.on (fun _ _ _ => rfl) hsz⟩
                    · simp only [List.getElem?_toArray, List.getElem?_cons_succ, List.getElem?_cons_zero, Option.some.injEq] at ho
                      subst ho
                      refine Reg.step_k fun Z9 hZ => ?_
                      simp [Reg.deps, Region.binds] at hd2
                      go_simp
                      refine Calls.mono (show Calls _ _ _ _ _ from HCB.out) ?_
                      rintro e w' ⟨v9, rfl, h1, h2⟩
                      exact hZ _ _ ⟨_, rfl, h1, h2.on (fun _ _ _ => rfl) hsz⟩
                    · clear HCA HCB
                      rcases (by omega : j = 0 ∨ j = 1 ∨ j = 2 ∨ j = 3 ∨ j = 4 ∨ j = 5 ∨ j = 6) with rfl | rfl | rfl | rfl | rfl | rfl | rfl
                      all_goals (
                        simp only [List.getElem?_toArray, List.getElem?_cons_succ, List.getElem?_cons_zero, Option.some.injEq] at ho
                        subst ho
                        first
                        | exact absurd rfl hn6.1
                        | exact absurd rfl hn6.2
                        | (refine Reg.step_k fun Z9 hZ => ?_
                           clear hn6
                           simp [Reg.deps, Region.binds] at hd2
                           go_simp
                           first
                           | exact hZ _ _ ⟨_, rfl, Below.refl _ _, rfl⟩
                           | exact hZ _ _ ⟨_, rfl, Below.refl _ _, by simp [*]⟩))
                  case ht8 =>
                    intro a9 u9 hF hB hG
                    obtain ⟨xl, hxl, rfl, hev⟩ := hF.lit (by simp)
                    obtain ⟨s0, s1, s2, s3, s4, s5, s6, rfl⟩ := plen7 hxl
                    have h0 := hG 0 (by decide)
                    rw [if_neg (by decide), if_neg (by decide), HTL.out] at h0
                    obtain rfl : s0 = .pointer (some ⟨p, 0, none⟩) := (hev 0 (by decide)).symm.trans h0
                    have hc1 := hG 3 (by decide)
                    have hc2 := hG 6 (by decide)
                    rw [if_pos rfl, show _ = s3 from hev 3 (by decide)] at hc1
                    rw [if_neg (by decide), if_pos rfl, show _ = s6 from hev 6 (by decide)] at hc2
                    obtain ⟨q1', hq1, hI1⟩ := InX.of2 (S := fun _ => False) hc1 (fun _ _ h => h) HFT.out.1 HSX.out.1
                    obtain ⟨q2', hq2, hI2⟩ := InX.of2 (S := fun _ => False) hc2 (fun _ _ h => h) HFT.out.2 HSX.out.2
                    have HAT7 := hideR (HAT6.out.bel hB)
                    have HXa7 := hideR ((hB.block _ (Array.getElem?_eq_some_iff.1 HXa6.out).1).trans HXa6.out)
                    clear HAT6 HXa6
                    have hs9 := HS6.out.bel hB
                    have hq9 := HQ6.out.bel hB
                    have HU := hideR (t_UnifyP HM.out.1 HM.out.2 u9 hs9 (HSL.out _ _ u9 hs9 hq9) hI1.in_ hI2.in_)
                    have HQ9 := hideR hq9
                    have HW9 := hideR (below_go HW6.out hB)
                    have HQQ := hideR (And.intro hq1 hq2)
                    have HGP := hideR (And.intro (fun (g : tkT n d A = true) => (⟨_, hI1.gp ((tk_few HFT.out.1 hq1).trans g)⟩ : Gt n A)) (fun (g : tkT n d B = true) => (⟨_, hI2.gp ((tk_few HFT.out.2 hq2).trans g)⟩ : Gt n B)))
                    clear hev hxl hF hG hB h0 hc1 hc2 hI1 hI2 hs9 hq9 hq1 hq2 HC1 HC2 HXT HS6 HQ6 HW6 HTL
                    simp only [List.take_succ_cons, List.take_zero, List.drop_succ_cons, List.drop_zero, List.cons_append, List.nil_append]
                    go_wp2_with fail
                    refine Calls.mono (show Calls _ _ _ _ _ from HU.out) ?_
                    rintro e u3 ⟨hsaid, hk3⟩
                    obtain ⟨rfl, hs3⟩ := unP_said HFT.out.1 HFT.out.2 HQQ.out.1 HQQ.out.2 hsaid
                    have HS8 := hideR hs3
                    have HQ8 := hideR (HQ9.out.kvO hk3 HAQ.out HSD.out.1 HSD.out.2.2.1)
                    have HW8 := hideR (hk3.bel HW9.out (fun k e => HLO.out k (HSD.out.2.2.1 k e)))
                    have HAT8 := hideR (HAT7.out.kv hk3 HSD.out.2.2.1)
                    have HXa8 := hideR ((hk3.block _ (Array.getElem?_eq_some_iff.1 HXa7.out).1 (fun e => Nat.lt_irrefl _ (HSLa.out _ (HSD.out.2.2.1 _ e)))).trans HXa7.out)
                    clear hsaid hk3 hs3 HU HW9 HQ9 HQQ
                    have hag := nx_again (m := m) (f := f) HGH.out HTT.out.1 HTT.out.2.1 HTT.out.2.2.1 HTT.out.2.2.2.1 HTT.out.2.2.2.2
                    rw [hag.2] at HS8
                    obtain ⟨zg, hzg⟩ : ∃ zg, zg = nxZ m f n d hh A B := ⟨_, rfl⟩
                    rw [← hzg] at hag ⊢
                    have HAG := hideR hag.1
                    clear hag hzg HGP HAT7 HXa7 HSX
                    go_upto_region 26 with fail
                    have HXT := hideR ((HW8.out.block _ (Array.getElem?_eq_some_iff.1 HX.out).1).trans HX.out)
                    have g0 := put_cell HXT.out 0 _ rfl
                    have g1 := put_cell HXT.out 1 _ rfl
                    have g2 := put_cell HXT.out 2 _ rfl
                    have g3 := put_cell HXT.out 3 _ rfl
                    have HC1 := hideR (t_copied d u3 A _ (HVA.out.but (Abv.of HW8.out)) HFT.out.1)
                    have HSLR := hideR (HSL.out _ _ u3 HS8.out HQ8.out)
                    go_wp2_with fail
                    refine Calls.mono (show Calls _ _ _ _ _ from HC1.out) ?_
                    rintro e y1 ⟨v1, rfl, hb1, hty1⟩
                    have hs1 := HS8.out.bel hb1
                    obtain ⟨q1', hq1, hI1⟩ := InX.of2 (S := S) hty1 (fun k hk hs => by have := HSLR.out k hs; omega) HFT.out.1 HSM.out.2.1
                    have hsl1 : ∀ k, S k → k < y1.heap.size := fun k hk => Nat.lt_of_lt_of_le (HSLR.out k hk) hb1.size
                    have HAP1 := hideR (t_ApplyP HM.out.1 y1 hs1 hsl1 hI1)
                    have HTK1 : Hid (tkT n q1' A = true) := hideR ((tk_few HFT.out.1 hq1).trans HTT.out.1)
                    have HSL1 := hideR hsl1
                    have HW1c := hideR (below_go HW8.out hb1)
                    have HQ1c := hideR (HQ8.out.bel hb1)
                    have HAT81 := hideR (HAT8.out.bel hb1)
                    have HXa81 := hideR ((hb1.block _ (Array.getElem?_eq_some_iff.1 HXa8.out).1).trans HXa8.out)
                    clear hb1 hty1 hs1 hsl1 hq1 hI1 HC1 HSLR HS8 HQ8 HW8 g0 g1 g2 g3 HXT HAT8 HXa8
                    go_wp2_with fail
                    refine Calls.mono (show Calls _ _ _ _ _ from HAP1.out) ?_
                    rintro e y2 ⟨va, za, rfl, hs2, hk2, hsaid⟩
                    obtain ⟨hzc, dAc, hat⟩ := ap_val HTK1.out HSL1.out hsaid
                    obtain ⟨kc1, xc1, nc1, rc1, rfl, honec⟩ := hat.val
                    obtain ⟨W4, hW4⟩ : ∃ W4, W4 = y2.alloc (.cells #[.int .i64 0, .string ⟨#[]⟩, .int .i64 0, .slice none 0 0] 34) := ⟨_, rfl⟩
                    have hb4 : Below y2.heap.size y2 W4 := by rw [hW4]; exact new_on' _ _
                    have hx4 : W4.heap[y2.heap.size]? = some (.cells #[.int .i64 0, .string ⟨#[]⟩, .int .i64 0, .slice none 0 0] 34 (0, 0)) := by rw [hW4]; exact heap_alloc_new y2 _
                    obtain ⟨yc, hW5, hth5, hbk5, hbl5, hne5⟩ := put4 (w := y2) (z := #[.int .i64 0, .string ⟨#[]⟩, .int .i64 0, .slice none 0 0]) (vs := #[.int .i64 kc1, .string xc1, .int .i64 nc1, rc1]) rfl hx4 hb4 (Nat.le_refl _)
                    obtain ⟨bc, hbbc⟩ : ∃ b, b = y2.heap.size := ⟨_, rfl⟩
                    have HT5 := hideR hth5; have HW5 := hideR hW5
                    rw [← hbbc] at hbk5
                    have HXc := hideR hbk5
                    have HBB := hideR hbbc
                    have HSc := hideR (hs2.bel hbl5)
                    have HQc := hideR ((HQ1c.out.kvO hk2 HAQ.out HSD.out.1 HSD.out.2.2.1).bel hbl5)
                    have HWc := hideR (below_go (hk2.bel HW1c.out (fun k e => HLO.out k (HSD.out.2.2.1 k e))) hbl5)
                    have HATc := hideR (hat.bel hbl5)
                    have HZc := hideR hzc
                    have HSLc : Hid (∀ k, S k → k < bc) := hideR (fun k hk => by rw [hbbc]; exact Nat.lt_of_lt_of_le (HSL1.out k hk) hk2.size)
                    have HAT8 := hideR ((HAT81.out.kv hk2 HSD.out.2.2.1).bel hbl5)
                    have HXa8 := hideR ((hbl5.block _ (Nat.lt_of_lt_of_le (Array.getElem?_eq_some_iff.1 HXa81.out).1 hk2.size)).trans ((hk2.block _ (Array.getElem?_eq_some_iff.1 HXa81.out).1 (fun e => Nat.lt_irrefl _ (HSLa.out _ (HSD.out.2.2.1 _ e)))).trans HXa81.out))
                    clear hs2 hk2 hsaid hat hzc hb4 hx4 hth5 hbk5 hbl5 hne5 hW5 HAP1 HTK1 HW1c HQ1c HSL1 HAT81 HXa81
                    go_upto_region 27 with (first | (rw [← hW4]; refine wpList_store_mid rfl 34 (.tmp 22) (.tmp 162) rfl y2.heap.size 0 #[.int .i64 kc1, .string xc1, .int .i64 nc1, rc1] rfl rfl HT5.out sizeTy' (by simp [Value.oneCell'] at honec ⊢; exact honec) ?_; rw [HW5.out]) | fail)
                    rw [← HBB.out]
                    clear hW4 HT5 HW5 HBB hbbc
                    rw [HZc.out, ← HZ.out]
                    obtain ⟨dd, hV1, hV2⟩ := ap_two HAT8.out HATc.out
                    have HSM1 := hideR (t_dSame0 hV1 hV2)
                    clear hV1 hV2 HATc HAT8 HZc HSc HQc
                    have c0 := put_cell HXa8.out 0 _ rfl
                    have c1 := put_cell HXa8.out 1 _ rfl
                    have c2 := put_cell HXa8.out 2 _ rfl
                    have c3 := put_cell HXa8.out 3 _ rfl
                    have b0 := put_cell HXc.out 0 _ rfl
                    have b1 := put_cell HXc.out 1 _ rfl
                    have b2 := put_cell HXc.out 2 _ rfl
                    have b3 := put_cell HXc.out 3 _ rfl
                    have q4 : (z == z) = true := by simp
                    by_cases hzg : zg = 0
                    · have q5 : (zg == 0) = true := by simpa using hzg
                      clear hzg HAG
                      go_wp2_with fail
                      refine Calls.mono (show Calls _ _ _ _ _ from HSM1.out) ?_
                      rintro e w7 ⟨rfl, hb7⟩
                      have HW7 := hideR (below_go HWc.out hb7)
                      clear hb7 HSM1 HWc
                      have HWK := hideR (wakesC w7)
                      go_wp2_with fail
                      refine Calls.mono (show Calls _ _ _ _ _ from HWK.out) ?_
                      rintro e w9 ⟨rfl, hb9⟩
                      have HB9 := hideR (below_go HB.out (below_go HW7.out hb9))
                      clear hb9 HWK
                      go_wp2
                      go_ret
                      exact ⟨rfl, HB9.out⟩
                    · have q5 : (zg == 0) = false := by simpa using hzg
                      have q6 : (zg == 3) = true := by simpa using HAG.out.resolve_left hzg
                      clear hzg HAG
                      go_wp2_with fail
                      refine Calls.mono (show Calls _ _ _ _ _ from HSM1.out) ?_
                      rintro e w7 ⟨rfl, hb7⟩
                      have HW7 := hideR (below_go HWc.out hb7)
                      clear hb7 HSM1 HWc
                      have HWK := hideR (wakesC w7)
                      go_wp2_with fail
                      refine Calls.mono (show Calls _ _ _ _ _ from HWK.out) ?_
                      rintro e w9 ⟨rfl, hb9⟩
                      have HB9 := hideR (below_go HB.out (below_go HW7.out hb9))
                      clear hb9 HWK
                      go_wp2
                      go_ret
                      exact ⟨rfl, HB9.out⟩
end Go.Proofs.Ytkflfohoinbenaa
