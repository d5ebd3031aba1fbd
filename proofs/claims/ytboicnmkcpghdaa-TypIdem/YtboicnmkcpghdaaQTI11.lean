/- Texts that the claim needs. -/
import Derived.Test.YtboicnmkcpghdaaQTI10
namespace Go.Proofs.Ytboicnmkcpghdaa
open Go.RowKit Lx Pz Rep Ty
set_option linter.unusedVariables false
namespace Ty
theorem plen18 {l:List Value} (h:l.length=18):∃a0 a1 a2 a3 a4 a5 a6 a7 a8 a9 b0 b1 b2 b3 b4 b5 b6 b7,l = [a0,a1,a2,a3,a4,a5,a6,a7,a8,a9,b0,b1,b2,b3,b4,b5,b6,b7]:=by
 match l,h with
 | [a0,a1,a2,a3,a4,a5,a6,a7,a8,a9,b0,b1,b2,b3,b4,b5,b6,b7],_=>exact ⟨_,_,_,_,_,_,_,_,_,_,_,_,_,_,_,_,_,_,rfl⟩
end Ty
set_option maxRecDepth 100000 in
set_option maxHeartbeats 16000000 in
theorem idemC (N dl d : Nat) (l : List (Value × Value)) (t vl v : Value) (w : World) (hN : N ≤ 255) (hl : Row 8 (PrC w dl) vl l) (ht : TyV 0 d w t v) (hsl : ∀ x ∈ l, (∀ e, smT e x.1) ∧ ∀ e, smT e x.2) (hst : ∀ e, smT e t) : Calls Try.prog 8 #[.int .u8 (N : Int), vl, v] w fun e w' => e = .returned (.bool true) ∧ Below w.heap.size w w' := by
  obtain ⟨m, hm⟩ : ∃ m, 1025 ≤ m := ⟨1025, Nat.le_refl _⟩
  obtain ⟨f, hf⟩ : ∃ f, 65537 ≤ f := ⟨65537, Nat.le_refl _⟩
  obtain ⟨oR, cR, rfl, hel⟩ := row_at hl
  have ht' := ht
  obtain ⟨k, x, n0, es, uT, _, rfl, hr⟩ := ht
  obtain ⟨oT, cT, hu, _⟩ := row_at hr
  have hou : uT.oneCell' = true := by rw [hu]; rfl
  obtain ⟨W, hW⟩ : ∃ W, W = w.alloc (.cells #[.int .i64 k, .string x, .int .i64 n0, uT] 34) := ⟨_, rfl⟩
  have hb : Below w.heap.size w W := by rw [hW]; exact new_on' _ _
  have hx : W.heap[w.heap.size]? = some (.cells #[.int .i64 k, .string x, .int .i64 n0, uT] 34 (0, 0)) := by rw [hW]; exact heap_alloc_new w _
  have HLG := hideR (t_large dl W l _ (hl.imp fun b o x _ h => h.on hb))
  have HLT := hideR (fun (u9 : World) (hu : Below W.heap.size W u9) => r_LargeType d u9 t _ (ht'.but (Abv.of (below_go hb hu))))
  have HCP := hideR (fun (hf : few d t) (u9 : World) (hu : Below W.heap.size W u9) => t_copied d u9 t _ (ht'.but (Abv.of (below_go hb hu))) hf)
  have HEL := hideR (fun (u9 : World) (hu : Below W.heap.size W u9) i x (hi : l[i]? = some x) => (by
    obtain ⟨b1, off, ho, hc⟩ := hel i x hi
    exact ⟨b1, off, ho, hc.on (below_go hb hu)⟩ : ∃ b1 off, oR = some ⟨b1, off, none⟩ ∧ PrC u9 dl b1 (off + i * 8) x))
  have HSM := hideR (And.intro hsl hst)
  have HM := hideR (And.intro hm hf)
  have HB := hideR hb
  have HX := hideR hx
  have HNN := hideR hN
  have HLN := hideR hl.1
  clear hl hel ht' hr hu hb hx hN hm hf hsl hst
  go_enter Try.func8, Try.ntmps8
  go_upto_region 1 with fail
  rw [← hW]
  clear hW
  go_wp2_with fail
  refine Calls.mono (show Calls _ _ _ _ _ from HLG.out) ?_
  rintro e w1 ⟨b, rfl, hb1, hfl⟩
  have HB1 := hideR hb1
  clear hb1 HLG
  cases b with
  | true =>
    clear hfl
    have HWK := hideR (wakesC w1)
    go_wp2_with fail
    refine Calls.mono (show Calls _ _ _ _ _ from HWK.out) ?_
    rintro e w2 ⟨rfl, hb2⟩
    have HB2 := hideR (below_go HB.out (below_go HB1.out hb2))
    clear hb2 HWK
    go_wp2
    go_ret
    exact ⟨rfl, HB2.out⟩
  | false =>
    have HFL := hideR (hfl rfl)
    have HLT1 := hideR (HLT.out w1 HB1.out)
    have hx1 := (HB1.out.block _ (Array.getElem?_eq_some_iff.1 HX.out).1).trans HX.out
    have z0 := put_cell hx1 0 _ rfl
    have z1 := put_cell hx1 1 _ rfl
    have z2 := put_cell hx1 2 _ rfl
    have z3 := put_cell hx1 3 _ rfl
    clear hfl hx1 HLT
    go_wp2_with fail
    refine Calls.mono (show Calls _ _ _ _ _ from HLT1.out) ?_
    rintro e w2 ⟨b, rfl, hb2, hft⟩
    have HB2 := hideR (below_go HB1.out hb2)
    clear hb2 HLT1 HB1 z0 z1 z2 z3
    cases b with
    | true =>
      clear hft
      have HWK := hideR (wakesC w2)
      go_wp2_with fail
      refine Calls.mono (show Calls _ _ _ _ _ from HWK.out) ?_
      rintro e w3 ⟨rfl, hb3⟩
      have HB3 := hideR (below_go HB.out (below_go HB2.out hb3))
      clear hb3 HWK
      go_wp2
      go_ret
      exact ⟨rfl, HB3.out⟩
    | false =>
      have HFT := hideR (hft rfl)
      have HFW := hideR (t_few w2 N HNN.out)
      clear hft
      go_wp2_with fail
      refine Calls.mono (show Calls _ _ _ _ _ from HFW.out) ?_
      rintro e w3 ⟨rfl, hb3⟩
      have HB3 := hideR (below_go HB2.out hb3)
      have HBT := hideR (t_both w3 (N % 12 + 1) (by omega))
      clear hb3 HFW HB2
      obtain ⟨n, hn⟩ : ∃ n, n = N % 12 + 1 := ⟨_, rfl⟩
      rw [← hn] at HBT
      rw [← hn]
      clear hn
      go_wp2_with fail
      refine Calls.mono (show Calls _ _ _ _ _ from HBT.out) ?_
      rintro e w4 ⟨p, r, xs, vs, bs, rfl, hb4, hbo⟩
      have HLO := hideR (show W.heap.size ≤ p ∧ ∀ k, vs.ownBlock = some k → W.heap.size ≤ k by
        have h1 := HB3.out.size
        have h2 := hbo.lo
        obtain ⟨ys, ho, _⟩ := hbo.sv.row
        exact ⟨by omega, fun k e => by have := (ho.lt k e).1; omega⟩)
      have HS4 : Hid (SO (SX p vs) w3.heap.size n vr p vs w4) := hideR (by
        have h := SO.new hbo.sv (fun l hl => List.eq_of_mem_replicate hl)
        rw [List.length_replicate] at h
        exact h)
      have HB4 := hideR (below_go HB3.out hb4)
      clear hb4 hbo HBT HB3
      go_wp2_with fail
      go_loopw [9] (fun aa wr => ∃ (i : Nat) (h : Nat → Value), aa = .int .i64 i ∧ i ≤ l.length ∧ i ≤ 12 ∧ Hid (SO (SX p vs) w3.heap.size n h p vs wr) ∧ Hid (Below W.heap.size W wr)) (fun aa _ => match aa with | .int _ i => l.length - i.toNat | _ => 0)
      case atStart => exact ⟨0, vr, rfl, Nat.zero_le _, Nat.zero_le _, HS4, HB4⟩
      case round =>
        obtain ⟨i, h, rfl, hi, hi2, HS, HW⟩ := hrel
        clear HS4 HB4
        by_cases hp : i < l.length ∧ i < 12
        · have q1 : decide ((i : Int) < (l.length : Int)) = true := decide_eq_true (by omega)
          have q2 : decide ((i : Int) < 12) = true := decide_eq_true (by omega)
          have hw2 : wrap64 ((i : Int) + 1) = ((i + 1 : Nat) : Int) := by unfold wrap64; omega
          obtain ⟨pr, hpr⟩ : ∃ pr, l[i]? = some pr := ⟨_, List.getElem?_eq_getElem hp.1⟩
          obtain ⟨b1, off, hoR, hC⟩ := HEL.out wr HW.out i pr hpr
          subst hoR
          obtain ⟨k1, x1, n1, u1, g0, g1, g2, g3, hV1⟩ := tyC_val hC.1
          obtain ⟨k2, x2, n2, u2, l0, l1, l2, l3, hV2⟩ := tyC_val hC.2
          obtain ⟨hf1, hf2⟩ := HFL.out i pr hp.2 hpr
          have HG := hideR (And.intro g0 (And.intro g1 (And.intro g2 (And.intro g3 (And.intro l0 (And.intro l1 (And.intro l2 l3)))))))
          have HC1 := hideR (fun (u9 : World) (hu : Below wr.heap.size wr u9) => t_copied dl u9 pr.1 _ (hV1.but (Abv.of hu)) hf1)
          have HC2 := hideR (fun (u9 : World) (hu : Below wr.heap.size wr u9) => t_copied dl u9 pr.2 _ (hV2.but (Abv.of hu)) hf2)
          have HFF := hideR (And.intro hf1 hf2)
          have HSS := hideR (HSM.out.1 pr (List.mem_of_getElem? hpr))
          clear g0 g1 g2 g3 l0 l1 l2 l3 hV1 hV2 hf1 hf2 hC hpr
          go_upto_region 7 with fail
          refine Reg.wp_region_two 13 (fun j => 37 + j) (fun j v u => if j = 6 then tyO wr.heap.size pr.1 v u else if j = 12 then tyO wr.heap.size pr.2 v u else v = ([.pointer (some ⟨p, 0, none⟩), .slice (some ⟨b1, off, none⟩) l.length cR, .int .i64 i, .pointer (some ⟨b1, off + i * 8, none⟩), .pointer (some ⟨b1, off + i * 8, none⟩), .agg #[.int .i64 k1, .string x1, .int .i64 n1, u1], undef, .slice (some ⟨b1, off, none⟩) l.length cR, .int .i64 i, .pointer (some ⟨b1, off + i * 8, none⟩), .pointer (some ⟨b1, off + i * 8 + 4, none⟩), .agg #[.int .i64 k2, .string x2, .int .i64 n2, u2], undef] : List Value).getD j undef) (by kernel_rfl) (by kernel_rfl) (fun i1 i2 h1 h2 h => by have h' : 37 + i1 = 37 + i2 := h; omega) (Reg.dst_ok (dst := fun j => 37 + j) (size := 99) (by kernel_rfl)) (fun j v u u' _ h hb => by
            by_cases h3 : j = 6
            · rw [if_pos h3] at h ⊢; exact h.on (Abv.lo (Abv.of hb) (Nat.zero_le _)) (Nat.le_refl _)
            · rw [if_neg h3] at h ⊢
              by_cases h5 : j = 12
              · rw [if_pos h5] at h ⊢; exact h.on (Abv.lo (Abv.of hb) (Nat.zero_le _)) (Nat.le_refl _)
              · rw [if_neg h5] at h ⊢; exact h) ?hs7 ?ht7
          case hs7 =>
            intro j o' a9 u9 hj ho hF hB hd
            have f1 : a9.tmps[1]?.getD undef = .slice (some ⟨b1, off, none⟩) l.length cR := Reg.ev_get (hF.eval 1 (fun i hi => by show 37 + i ≠ 1; omega))
            have f7 : a9.tmps[7]?.getD undef = .pointer (some ⟨p, 0, none⟩) := Reg.ev_get (hF.eval 7 (fun i hi => by show 37 + i ≠ 7; omega))
            have f9 : a9.tmps[9]?.getD undef = .int .i64 (i : Int) := Reg.ev_get (hF.eval 9 (fun i hi => by show 37 + i ≠ 9; omega))
            obtain ⟨g0, g1, g2, g3, l0, l1, l2, l3⟩ := HG.out
            have g0 := cell_on hB g0
            have g1 := cell_on hB g1
            have g2 := cell_on hB g2
            have g3 := cell_on hB g3
            have l0 := cell_on hB l0
            have l1 := cell_on hB l1
            have l2 := cell_on hB l2
            have l3 := cell_on hB l3
            have HCA := hideR (HC1.out u9 hB)
            have HCB := hideR (HC2.out u9 hB)
            have hsz := hB.size
            have hd2 : ∀ j2 ∈ Reg.deps o', j2 ≠ 6 → j2 ≠ 12 → a9.tmps[37 + j2]?.getD undef = ([.pointer (some ⟨p, 0, none⟩), .slice (some ⟨b1, off, none⟩) l.length cR, .int .i64 i, .pointer (some ⟨b1, off + i * 8, none⟩), .pointer (some ⟨b1, off + i * 8, none⟩), .agg #[.int .i64 k1, .string x1, .int .i64 n1, u1], undef, .slice (some ⟨b1, off, none⟩) l.length cR, .int .i64 i, .pointer (some ⟨b1, off + i * 8, none⟩), .pointer (some ⟨b1, off + i * 8 + 4, none⟩), .agg #[.int .i64 k2, .string x2, .int .i64 n2, u2], undef] : List Value).getD j2 undef := fun j2 hj2 h3 h5 => by
              have h := hd j2 hj2
              rw [if_neg h3, if_neg h5] at h
              exact Reg.ev_get h
            clear hd
            rcases (by omega : j = 6 ∨ j = 12 ∨ (j ≠ 6 ∧ j ≠ 12)) with rfl | rfl | hn6
            · simp only [List.getElem?_toArray, List.getElem?_cons_succ, List.getElem?_cons_zero, Option.some.injEq] at ho
              subst ho
              refine Reg.step_k fun Z9 hZ => ?_
              simp [Reg.deps, Region.binds] at hd2
              go_simp
              refine Calls.mono (show Calls _ _ _ _ _ from HCA.out) ?_
              rintro e w' ⟨v9, rfl, h1, h2⟩
              exact hZ _ _ ⟨_, rfl, h1, h2.on (fun _ _ _ => rfl) hsz⟩
            · simp only [List.getElem?_toArray, List.getElem?_cons_succ, List.getElem?_cons_zero, Option.some.injEq] at ho
              subst ho
              refine Reg.step_k fun Z9 hZ => ?_
              simp [Reg.deps, Region.binds] at hd2
              go_simp
              refine Calls.mono (show Calls _ _ _ _ _ from HCB.out) ?_
              rintro e w' ⟨v9, rfl, h1, h2⟩
              exact hZ _ _ ⟨_, rfl, h1, h2.on (fun _ _ _ => rfl) hsz⟩
            · clear HCA HCB
              rcases cases13 hj with rfl | rfl | rfl | rfl | rfl | rfl | rfl | rfl | rfl | rfl | rfl | rfl | rfl
              all_goals (
                simp only [List.getElem?_toArray, List.getElem?_cons_succ, List.getElem?_cons_zero, Option.some.injEq] at ho
                subst ho
                first
                | exact absurd rfl hn6.1
                | exact absurd rfl hn6.2
                | (refine Reg.step_k fun Z9 hZ => ?_
                   clear hn6
                   simp [Reg.deps, Region.binds] at hd2
                   go_simp
                   first
                   | exact hZ _ _ ⟨_, rfl, Below.refl _ _, rfl⟩
                   | exact hZ _ _ ⟨_, rfl, Below.refl _ _, by simp [*]⟩))
          case ht7 =>
            intro a9 u9 hF hB hG
            obtain ⟨xl, hxl, rfl, hev⟩ := hF.lit (by simp)
            obtain ⟨s0, s1, s2, s3, s4, s5, s6, s7, s8, s9, s10, s11, s12, rfl⟩ := plen13 hxl
            obtain rfl : s0 = .pointer (some ⟨p, 0, none⟩) := (hev 0 (by decide)).symm.trans (hG 0 (by decide))
            have h6 := hG 6 (by decide)
            have h12 := hG 12 (by decide)
            rw [if_pos rfl, show _ = s6 from hev 6 (by decide)] at h6
            rw [if_neg (by decide), if_pos rfl, show _ = s12 from hev 12 (by decide)] at h12
            obtain ⟨e1, _, hI1⟩ := InX.of2 (S := fun _ => False) h6 (fun _ _ h => h) HFF.out.1 HSS.out.1
            obtain ⟨e2, _, hI2⟩ := InX.of2 (S := fun _ => False) h12 (fun _ _ h => h) HFF.out.2 HSS.out.2
            have hs9 := HS.out.bel hB
            have HU1 := hideR (t_UnifyP HM.out.1 HM.out.2 u9 hs9 (fun k hk => by
              rcases hk with h | h
              · rw [h]; exact hs9.lt.1
              · exact hs9.lt.2 k h) hI1.in_ hI2.in_)
            have HW9 := hideR (below_go HW.out hB)
            clear hev hxl hF hG hB h6 h12 hI1 hI2 hs9 HC1 HC2 HG HS HW
            simp only [List.take_succ_cons, List.take_zero, List.drop_succ_cons, List.drop_zero, List.cons_append, List.nil_append]
            go_wp2_with fail
            refine Calls.mono (show Calls _ _ _ _ _ from HU1.out) ?_
            rintro e u3 ⟨hsaid, hk3⟩
            obtain ⟨r3, h3, rfl, hs3⟩ : ∃ r3 h3, e = .returned (.int .i64 r3) ∧ SO (SX p vs) w3.heap.size n h3 p vs u3 := by
              rcases hsaid with ⟨_, h1, h2⟩ | ⟨_, h1, h2⟩
              · exact ⟨_, _, h1, h2⟩
              · exact ⟨_, _, h1, h2⟩
            have HS3 := hideR hs3
            have HW3 := hideR (hk3.bel HW9.out HLO.out.2)
            clear hsaid hk3 hs3 HU1 HW9
            go_wp2
            go_roundw
            case rel => exact ⟨i + 1, h3, by first | rfl | (congr 1), hp.1, hp.2, HS3, HW3⟩
            case measure => simp; omega
        · have HE : Hid (i < l.length → ¬ i < 12) := hideR (fun h1 h2 => hp ⟨h1, h2⟩)
          clear hp
          by_cases hp1 : i < l.length
          · have q1 : decide ((i : Int) < (l.length : Int)) = true := decide_eq_true (by omega)
            have q2 : decide ((i : Int) < 12) = false := decide_eq_false (by have := HE.out hp1; omega)
            clear HE
            have hx1 := (HW.out.block _ (Array.getElem?_eq_some_iff.1 HX.out).1).trans HX.out
            have z0 := put_cell hx1 0 _ rfl
            have z1 := put_cell hx1 1 _ rfl
            have z2 := put_cell hx1 2 _ rfl
            have z3 := put_cell hx1 3 _ rfl
            have HC1 := hideR (HCP.out HFT.out wr HW.out)
            clear hx1
            go_wp2_with fail
            refine Calls.mono (show Calls _ _ _ _ _ from HC1.out) ?_
            rintro e u1 ⟨v1, rfl, hb1, hty1⟩
            have hs1 := HS.out.bel hb1
            have hlr := HS.out.lt
            have hslr : ∀ k, SX p vs k → k < wr.heap.size := fun k hk => by
              rcases hk with h | h
              · rw [h]; exact hlr.1
              · exact hlr.2 k h
            obtain ⟨e1, he1, hI1⟩ := InX.of2 (S := SX p vs) hty1 (fun k hk hs => by have := hslr k hs; omega) HFT.out HSM.out.2
            have HA1 := hideR (t_ApplyP HM.out.1 u1 hs1 (fun k hk => Nat.lt_of_lt_of_le (hslr k hk) hb1.size) hI1)
            have HI1 := hideR hI1
            have HW1 := hideR (below_go HW.out hb1)
            have HOW := hideR (show ∀ k, SX p vs k → k < u1.heap.size from fun k hk => Nat.lt_of_lt_of_le (hslr k hk) hb1.size)
            have HGD := hideR hs1.gd
            clear hb1 hty1 hs1 hlr hslr hI1 HC1 HS HW z0 z1 z2 z3
            go_wp2_with fail
            refine Calls.mono (show Calls _ _ _ _ _ from HA1.out) ?_
            rintro e u2 ⟨va, za, rfl, hs2, hk2, hsaid⟩
            have HW2 := hideR (hk2.bel HW1.out HLO.out.2)
            rcases hsaid with ⟨_, rfl, rfl⟩ | ⟨htk, hne, rfl, rfl⟩ | ⟨htk, hlk, rfl, hty2⟩
            · clear HA1 HI1 HW1 HOW HGD
              have HWE := hideR HW2.out
              obtain ⟨W4, hW4⟩ : ∃ W4, W4 = u2.alloc (.cells #[.int .i64 0, .string ⟨#[]⟩, .int .i64 0, .slice none 0 0] 34) := ⟨_, rfl⟩
              have hb4 : Below u2.heap.size u2 W4 := by rw [hW4]; exact new_on' _ _
              have hx4 : W4.heap[u2.heap.size]? = some (.cells #[.int .i64 0, .string ⟨#[]⟩, .int .i64 0, .slice none 0 0] 34 (0, 0)) := by rw [hW4]; exact heap_alloc_new u2 _
              obtain ⟨W5, hW5, hth5, hbk5, hbl5, hne5⟩ := put4 (w := u2) (z := #[.int .i64 0, .string ⟨#[]⟩, .int .i64 0, .slice none 0 0]) (vs := #[.int .i64 0, .string ⟨#[]⟩, .int .i64 0, .slice none 0 0]) rfl hx4 hb4 (Nat.le_refl _)
              have HT5 := hideR hth5; have HW5 := hideR hW5
              have c0 := put_cell hbk5 0 _ rfl
              have HB5 := hideR (below_go HW2.out hbl5)
              have HWK := hideR (wakesC W5)
              clear hb4 hx4 hth5 hbk5 hbl5 hne5 hW5 hs2 hk2
              go_wp2_with (first | (rw [← hW4]; refine wpList_store_mid rfl 34 (.tmp 10) (.tmp 56) rfl u2.heap.size 0 #[.int .i64 0, .string ⟨#[]⟩, .int .i64 0, .slice none 0 0] rfl rfl HT5.out sizeTy' (by simp [Value.oneCell']) ?_; rw [HW5.out]) | fail)
              refine Calls.mono (show Calls _ _ _ _ _ from HWK.out) ?_
              rintro e w9 ⟨rfl, hb9⟩
              have HB9 := hideR (below_go HB.out (below_go HB5.out hb9))
              clear hb9 HWK c0
              go_wp2
              go_ret
              exact ⟨rfl, HB9.out⟩
            · have h3 : (lkT h 0 m 0 t).1 = 3 := (lkT_03 HGD.out m 0 e1 t (HI1.out.gp htk)).resolve_left hne
              rw [h3]
              clear htk hne h3 HA1 HI1 HW1 HOW HGD
              have HWE := hideR HW2.out
              obtain ⟨W4, hW4⟩ : ∃ W4, W4 = u2.alloc (.cells #[.int .i64 0, .string ⟨#[]⟩, .int .i64 0, .slice none 0 0] 34) := ⟨_, rfl⟩
              have hb4 : Below u2.heap.size u2 W4 := by rw [hW4]; exact new_on' _ _
              have hx4 : W4.heap[u2.heap.size]? = some (.cells #[.int .i64 0, .string ⟨#[]⟩, .int .i64 0, .slice none 0 0] 34 (0, 0)) := by rw [hW4]; exact heap_alloc_new u2 _
              obtain ⟨W5, hW5, hth5, hbk5, hbl5, hne5⟩ := put4 (w := u2) (z := #[.int .i64 0, .string ⟨#[]⟩, .int .i64 0, .slice none 0 0]) (vs := #[.int .i64 0, .string ⟨#[]⟩, .int .i64 0, .slice none 0 0]) rfl hx4 hb4 (Nat.le_refl _)
              have HT5 := hideR hth5; have HW5 := hideR hW5
              have c0 := put_cell hbk5 0 _ rfl
              have HB5 := hideR (below_go HW2.out hbl5)
              have HWK := hideR (wakesC W5)
              clear hb4 hx4 hth5 hbk5 hbl5 hne5 hW5 hs2 hk2
              go_wp2_with (first | (rw [← hW4]; refine wpList_store_mid rfl 34 (.tmp 10) (.tmp 56) rfl u2.heap.size 0 #[.int .i64 0, .string ⟨#[]⟩, .int .i64 0, .slice none 0 0] rfl rfl HT5.out sizeTy' (by simp [Value.oneCell']) ?_; rw [HW5.out]) | fail)
              refine Calls.mono (show Calls _ _ _ _ _ from HWK.out) ?_
              rintro e w9 ⟨rfl, hb9⟩
              have HB9 := hideR (below_go HB.out (below_go HB5.out hb9))
              clear hb9 HWK c0
              go_wp2
              go_ret
              exact ⟨rfl, HB9.out⟩
            · have bm := bt_main HGD.out m 0 e1 t (HI1.out.gp htk) hlk
              have hok := lkT_ok m 0 t hlk
              have hcn : ∀ e, cnT e 0 t ≤ (lkT h 0 m 0 t).2 := cn_le m 0 0 e1 t (Nat.le_refl _) (HI1.out.gp htk) hlk
              have hlU : (lkT h 0 m 0 (btT h m t)).1 = 0 := by rw [bm.2.2.2.2.1]; exact hlk
              have hbU : btT h m (btT h m t) = btT h m t := bm.2.2.2.2.2.1
              have hfU := bm.2.2.1
              have hsU := bm.2.2.2.1
              have hgU := bm.2.1
              have hcU := bm.1
              generalize btT h m t = U at *
              generalize (lkT h 0 m 0 t).2 = cu at *
              obtain ⟨k2, x2, n2, r2, rfl, hone2⟩ := hty2.val
              obtain ⟨W4, hW4⟩ : ∃ W4, W4 = u2.alloc (.cells #[.int .i64 0, .string ⟨#[]⟩, .int .i64 0, .slice none 0 0] 34) := ⟨_, rfl⟩
              have hb4 : Below u2.heap.size u2 W4 := by rw [hW4]; exact new_on' _ _
              have hx4 : W4.heap[u2.heap.size]? = some (.cells #[.int .i64 0, .string ⟨#[]⟩, .int .i64 0, .slice none 0 0] 34 (0, 0)) := by rw [hW4]; exact heap_alloc_new u2 _
              obtain ⟨W5, hW5, hth5, hbk5, hbl5, hne5⟩ := put4 (w := u2) (z := #[.int .i64 0, .string ⟨#[]⟩, .int .i64 0, .slice none 0 0]) (vs := #[.int .i64 k2, .string x2, .int .i64 n2, r2]) rfl hx4 hb4 (Nat.le_refl _)
              have HT5 := hideR hth5; have HW5 := hideR hW5; have HX5 := hideR hbk5
              have hs5 := hs2.bel hbl5
              have HB5 := hideR (below_go HW2.out hbl5)
              obtain ⟨dU, hvU⟩ : ∃ dU, m ≤ dU ∧ AtX (SX p vs) W5 dU U (.agg #[.int .i64 k2, .string x2, .int .i64 n2, r2]) := by
                obtain ⟨ka, xa, na, ea, ua, h1, h2, d9, h3⟩ := hty2
                exact ⟨m + d9, by omega, ka, xa, na, ea, ua, h1, h2, h3.imp fun b o t _ h => up_le (F := TyX false (SX p vs) W5) (d := d9) TyX.up (by omega) (TyX.weak (f := false) _ _ _ _ (h.on (S' := SX p vs) (fun k _ hl => hbl5.block k hl) fun k _ hk => HOW.out k hk))⟩
              have hfD : few dU U := by
                have hf2 : ∀ e, few (m + e) U := fun e => by
                  induction e with
                  | zero => exact hfU
                  | succ e ih => exact few_up _ _ ih
                have := hf2 (dU - m)
                rw [show m + (dU - m) = dU by omega] at this
                exact this
              have HVU := hideR hvU.2
              have HCC := hideR (fun (u9 : World) (hu : Below W5.heap.size W5 u9) => t_copied dU u9 U _ (hvU.2.tyv.but (Abv.of hu)) hfD)
              have HCC5 := hideR (HCC.out W5 (Below.refl _ _))
              have c0 := put_cell hbk5 0 _ rfl
              have c1 := put_cell hbk5 1 _ rfl
              have c2 := put_cell hbk5 2 _ rfl
              have c3 := put_cell hbk5 3 _ rfl
              have hu12 : u1.heap.size ≤ u2.heap.size := hk2.size
              have HOW2 := hideR (show ∀ k, SX p vs k → k < u2.heap.size from fun k hk => Nat.lt_of_lt_of_le (HOW.out k hk) hu12)
              have HS5 := hideR hs5
              have HFD := hideR hfU
              have HSU := hideR hsU
              have HLU := hideR hlU
              have HBU := hideR hbU
              have HCN := hideR (And.intro hcn (And.intro hcU (And.intro hgU (And.intro hok hvU.1))))
              have hbl5s := hbl5.size
              have HZ5 := hideR hbl5s
              clear hs2 hk2 htk hlk hty2 bm hok hcn hlU hbU hfU hsU hgU hcU hb4 hx4 hth5 hbk5 hbl5 hne5 hW5 hs5 hvU hfD hu12 hbl5s HA1 HI1 HW1 HOW HW2
              go_wp2_with (first | (rw [← hW4]; refine wpList_store_mid rfl 34 (.tmp 10) (.tmp 56) rfl u2.heap.size 0 #[.int .i64 k2, .string x2, .int .i64 n2, r2] rfl rfl HT5.out sizeTy' (by simp [Value.oneCell'] at hone2 ⊢; exact hone2) ?_; rw [HW5.out]) | fail)
              clear hW4 HT5 HW5
              refine Calls.mono (show Calls _ _ _ _ _ from HCC5.out) ?_
              rintro e u3 ⟨v3, rfl, hb3, hty3⟩
              have hs3 := HS5.out.bel hb3
              have hc5 : ∀ k, SX p vs k → k < W5.heap.size := fun k hk => Nat.lt_of_lt_of_le (HOW2.out k hk) HZ5.out
              obtain ⟨e3, he3, hI3⟩ := InX.of2 (S := SX p vs) hty3 (fun k hk hs => by have := hc5 k hs; omega) HFD.out HSU.out
              have HA3 := hideR (t_ApplyP HM.out.1 u3 hs3 (fun k hk => Nat.lt_of_lt_of_le (hc5 k hk) hb3.size) hI3)
              have htk3 : tkT n e3 U = true := by
                unfold tkT
                rw [Bool.and_eq_true, decide_eq_true_eq]
                refine ⟨?_, ?_⟩
                · have h1 := HCN.out.2.1 (e3 + 1 - m)
                  rw [show m + (e3 + 1 - m) = e3 + 1 by omega] at h1
                  rw [h1]; exact HCN.out.2.2.2.1.2
                · have h1 : ∀ e, gdT n (m + e) U = true := fun e => by
                    induction e with
                    | zero => exact HCN.out.2.2.1
                    | succ e ih => exact gdT_up _ _ ih
                  have h2 := h1 (e3 + 1 - m)
                  rw [show m + (e3 + 1 - m) = e3 + 1 by omega] at h2
                  exact h2
              have HTK3 := hideR htk3
              have HB3 := hideR (below_go HB5.out hb3)
              have HX3 := hideR ((hb3.block _ (Array.getElem?_eq_some_iff.1 HX5.out).1).trans HX5.out)
              have HV3 := hideR (HVU.out.on (w' := u3) fun k hk _ => hb3.block k hk)
              have hW53 := hb3.size
              have HW53 := hideR hW53
              clear hW53 hb3 hty3 hs3 hc5 he3 hI3 htk3 HCC5 HCC HS5 HX5 HVU HB5 c0 c1 c2 c3
              go_wp2_with fail
              refine Calls.mono (show Calls _ _ _ _ _ from HA3.out) ?_
              rintro e u4 ⟨v4, z4', rfl, _, hk4, hsaid⟩
              obtain ⟨rfl, hty4⟩ : z4' = 0 ∧ tyU u3.heap.size U v4 u4 := by
                rcases hsaid with ⟨h0, _⟩ | ⟨_, h0, _⟩ | ⟨_, _, h1, h2⟩
                · rw [HTK3.out] at h0; cases h0
                · exact absurd HLU.out h0
                · rw [HBU.out] at h2; exact ⟨h1, h2⟩
              obtain ⟨k4, x4, n4, r4, rfl, hone4⟩ := hty4.val
              have HB4 := hideR (hk4.bel HB3.out HLO.out.2)
              have hx4 : u4.heap[u2.heap.size]? = some (.cells #[.int .i64 k2, .string x2, .int .i64 n2, r2] 34 (0, 0)) := (hk4.block _ (Array.getElem?_eq_some_iff.1 HX3.out).1 (fun e => by have := HOW2.out _ (.inr e); omega)).trans HX3.out
              obtain ⟨W6, hW6⟩ : ∃ W6, W6 = u4.alloc (.cells #[.int .i64 0, .string ⟨#[]⟩, .int .i64 0, .slice none 0 0] 34) := ⟨_, rfl⟩
              have hb6 : Below u4.heap.size u4 W6 := by rw [hW6]; exact new_on' _ _
              have hx6 : W6.heap[u4.heap.size]? = some (.cells #[.int .i64 0, .string ⟨#[]⟩, .int .i64 0, .slice none 0 0] 34 (0, 0)) := by rw [hW6]; exact heap_alloc_new u4 _
              obtain ⟨W7, hW7, hth7, hbk7, hbl7, hne7⟩ := put4 (w := u4) (z := #[.int .i64 0, .string ⟨#[]⟩, .int .i64 0, .slice none 0 0]) (vs := #[.int .i64 k4, .string x4, .int .i64 n4, r4]) rfl hx6 hb6 (Nat.le_refl _)
              have HT7 := hideR hth7; have HW7 := hideR hW7; have HX7 := hideR hbk7
              have HB7 := hideR (below_go HB4.out hbl7)
              have HXU := hideR ((hbl7.block _ (Array.getElem?_eq_some_iff.1 hx4).1).trans hx4)
              have HXT := hideR ((HB7.out.block _ (Array.getElem?_eq_some_iff.1 HX.out).1).trans HX.out)
              have hkb : ∀ k, k < u3.heap.size → vs.ownBlock ≠ some k → W7.heap[k]? = u3.heap[k]? := fun k hk ho => (hbl7.block k (Nat.lt_of_lt_of_le hk hk4.size)).trans (hk4.block k hk ho)
              have hVU : AtX (SX p vs) W7 dU U (.agg #[.int .i64 k2, .string x2, .int .i64 n2, r2]) := HV3.out.on fun k hk hn => hkb k hk (fun e => hn (.inr e))
              obtain ⟨dd, hdd, hV2, hV4⟩ : ∃ dd, dU ≤ dd ∧ TyV 0 dd W7 U (.agg #[.int .i64 k2, .string x2, .int .i64 n2, r2]) ∧ TyV 0 dd W7 U (.agg #[.int .i64 k4, .string x4, .int .i64 n4, r4]) := by
                obtain ⟨d4, hv4⟩ := (hty4.on (C := 0) (Abv.of hbl7) (Nat.zero_le _)).toO
                exact ⟨dU + d4, by omega, hVU.tyv.up (by omega), hv4.up (by omega)⟩
              have hcu : cnT (dd + 1) 0 U = cu := by
                have h1 := HCN.out.2.1 (dd + 1 - m)
                rw [show m + (dd + 1 - m) = dd + 1 by have := HCN.out.2.2.2.2; omega] at h1
                exact h1
              have HSM7 := hideR (fun (u9 : World) (hu : Below W7.heap.size W7 u9) => t_dSame0 (hV2.but (Abv.of hu)) (hV4.but (Abv.of hu)))
              have HSZ7 := hideR (fun (u9 : World) (hu : Below W7.heap.size W7 u9) => (by have h := t_Size dd u9 U _ (hV2.but (Abv.of hu)); rw [hcu] at h; exact h : Calls Try.prog 21 #[.agg #[.int .i64 k2, .string x2, .int .i64 n2, r2]] u9 fun e w' => e = .returned (.int .i64 ((cu : Nat) : Int)) ∧ Below u9.heap.size u9 w'))
              have HCT := hideR (HCP.out HFT.out)
              have HCL := hideR HCN.out.1
              clear hk4 hsaid hty4 hx4 hb6 hx6 hth7 hbk7 hbl7 hne7 hW7 hkb hVU hdd hV2 hV4 hcu HA3 HB3 HX3 HV3 HTK3 HB4 HCN HFD HSU HLU HBU HGD HOW2 HZ5 HW53
              go_wp2_with (first | (rw [← hW6]; refine wpList_store_mid rfl 34 (.tmp 12) (.tmp 79) rfl u4.heap.size 0 #[.int .i64 k4, .string x4, .int .i64 n4, r4] rfl rfl HT7.out sizeTy' (by simp [Value.oneCell'] at hone4 ⊢; exact hone4) ?_; rw [HW7.out]) | fail)
              clear hW6 HT7 HW7
              refine Reg.wp_region_effh 18 (fun i => 81 + i) (fun _ u u' => Below u.heap.size u u') (fun u => Below W7.heap.size W7 u) (fun _ _ => True) (fun i v u => if i = 11 then ∃ d, TyV 0 d u t v else if i = 12 then ∃ ct : Nat, v = .int .i64 (ct : Int) ∧ ct ≤ cu else v = ([.int .i64 0, .bool true, .bool true, .agg #[.int .i64 k2, .string x2, .int .i64 n2, r2], .agg #[.int .i64 k4, .string x4, .int .i64 n4, r4], .bool true, .bool true, .bool true, .agg #[.int .i64 k2, .string x2, .int .i64 n2, r2], .int .i64 (cu : Int), .agg #[.int .i64 k, .string x, .int .i64 n0, uT], undef, undef, .bool true, .bool true, .bool true, .bool true, .bool true] : List Value).getD i undef) (by kernel_rfl) (by kernel_rfl) (fun i1 i2 h1 h2 h => by have h' : 81 + i1 = 81 + i2 := h; omega) (Reg.dst_okG (dst := fun i => 81 + i) (size := 99) (by kernel_rfl)) (fun i k v u u' _ _ _ _ h hb => by
                by_cases h3 : i = 11
                · rw [if_pos h3] at h ⊢; obtain ⟨d, h⟩ := h; exact ⟨d, h.but (Abv.of hb)⟩
                · rw [if_neg h3] at h ⊢
                  by_cases h5 : i = 12
                  · rw [if_pos h5] at h ⊢; exact h
                  · rw [if_neg h5] at h ⊢; exact h) (fun _ _ _ _ _ _ _ _ _ => trivial) (fun k u u' _ hk hT => below_go hk hT) ?hs12 ?ht12 (below_drewN' W7 1) (fun _ _ => trivial)
              case hs12 =>
                intro i o' a9 u9 hi ho hF hB _ hd
                have f5 : a9.tmps[5]?.getD undef = .pointer (some ⟨w.heap.size, 0, none⟩) := Reg.ev_get (hF.eval 5 (fun i hi => by show 81 + i ≠ 5; omega))
                have f10 : a9.tmps[10]?.getD undef = .pointer (some ⟨u2.heap.size, 0, none⟩) := Reg.ev_get (hF.eval 10 (fun i hi => by show 81 + i ≠ 10; omega))
                have f12 : a9.tmps[12]?.getD undef = .pointer (some ⟨u4.heap.size, 0, none⟩) := Reg.ev_get (hF.eval 12 (fun i hi => by show 81 + i ≠ 12; omega))
                have f13 : a9.tmps[13]?.getD undef = .int .i64 0 := Reg.ev_get (hF.eval 13 (fun i hi => by show 81 + i ≠ 13; omega))
                have hxa := (hB.block _ (Array.getElem?_eq_some_iff.1 HXU.out).1).trans HXU.out
                have hxb := (hB.block _ (Array.getElem?_eq_some_iff.1 HX7.out).1).trans HX7.out
                have hxc := (hB.block _ (Array.getElem?_eq_some_iff.1 HXT.out).1).trans HXT.out
                have c0 := put_cell hxa 0 _ rfl
                have c1 := put_cell hxa 1 _ rfl
                have c2 := put_cell hxa 2 _ rfl
                have c3 := put_cell hxa 3 _ rfl
                have b0 := put_cell hxb 0 _ rfl
                have b1 := put_cell hxb 1 _ rfl
                have b2 := put_cell hxb 2 _ rfl
                have b3 := put_cell hxb 3 _ rfl
                have t0 := put_cell hxc 0 _ rfl
                have t1 := put_cell hxc 1 _ rfl
                have t2 := put_cell hxc 2 _ rfl
                have t3 := put_cell hxc 3 _ rfl
                have HSM9 := hideR (HSM7.out u9 hB)
                have HSZ9 := hideR (HSZ7.out u9 hB)
                have HCT9 := hideR (HCT.out u9 (below_go HB7.out hB))
                have HWK := hideR (wakesC u9)
                have hd2 : ∀ j2 ∈ Reg.deps o', j2 ≠ 11 → j2 ≠ 12 → a9.tmps[81 + j2]?.getD undef = ([.int .i64 0, .bool true, .bool true, .agg #[.int .i64 k2, .string x2, .int .i64 n2, r2], .agg #[.int .i64 k4, .string x4, .int .i64 n4, r4], .bool true, .bool true, .bool true, .agg #[.int .i64 k2, .string x2, .int .i64 n2, r2], .int .i64 (cu : Int), .agg #[.int .i64 k, .string x, .int .i64 n0, uT], undef, undef, .bool true, .bool true, .bool true, .bool true, .bool true] : List Value).getD j2 undef := fun j2 hj2 h3 h5 => by
                  have h := hd j2 hj2
                  rw [if_neg h3, if_neg h5] at h
                  exact Reg.ev_get h
                have hgt : ∀ j2, j2 ∈ Reg.deps o' → (j2 = 2 ∨ j2 = 7 ∨ j2 = 15) → a9.eval (.tmp (81 + j2)) = .bool true := fun j2 hj2 hc => by
                  have h := hd j2 hj2
                  rw [if_neg (by omega), if_neg (by omega)] at h
                  rcases hc with rfl | rfl | rfl <;> exact h
                have hd11 : 11 ∈ Reg.deps o' → ∃ d, TyV 0 d u9 t (a9.eval (.tmp 92)) := fun h5 => by
                  have h := hd 11 h5
                  rw [if_pos rfl] at h
                  exact h
                have hd12 : 12 ∈ Reg.deps o' → ∃ ct : Nat, a9.eval (.tmp 93) = .int .i64 (ct : Int) ∧ ct ≤ cu := fun h5 => by
                  have h := hd 12 h5
                  rw [if_neg (by decide), if_pos rfl] at h
                  exact h
                clear hd hxa hxb hxc
                rcases (by omega : (i ≠ 5 ∧ i ≠ 9 ∧ i ≠ 11 ∧ i ≠ 12 ∧ i ≠ 13 ∧ i ≠ 16) ∨ i = 5 ∨ i = 9 ∨ i = 11 ∨ i = 12 ∨ i = 13 ∨ i = 16) with hn | rfl | rfl | rfl | rfl | rfl | rfl
                · clear hd11 hd12 HSM9 HSZ9 HCT9 HWK
                  rcases (by omega : i = 0 ∨ i = 1 ∨ i = 2 ∨ i = 3 ∨ i = 4 ∨ i = 6 ∨ i = 7 ∨ i = 8 ∨ i = 10 ∨ i = 14 ∨ i = 15 ∨ i = 17) with rfl | rfl | rfl | rfl | rfl | rfl | rfl | rfl | rfl | rfl | rfl | rfl
                  all_goals (
                    simp only [List.getElem?_toArray, List.getElem?_cons_succ, List.getElem?_cons_zero, Option.some.injEq] at ho
                    subst ho
                    refine ⟨?_, Reg.step_k fun Z9 hZ => ?_⟩
                    · first
                      | (simp [Region.wanted]; done)
                      | (rw [Reg.wants rfl rfl rfl (hgt 2 (by decide) (by decide))]; rfl)
                      | (rw [Reg.wants rfl rfl rfl (hgt 7 (by decide) (by decide))]; rfl)
                      | (rw [Reg.wants rfl rfl rfl (hgt 15 (by decide) (by decide))]; rfl)
                    · clear hgt hn
                      simp [Reg.deps, Region.binds] at hd2
                      go_simp
                      first
                      | exact hZ _ _ ⟨_, rfl, Below.refl _ _, rfl⟩
                      | exact hZ _ _ ⟨_, rfl, Below.refl _ _, by simp [*]⟩)
                all_goals (simp only [List.getElem?_toArray, List.getElem?_cons_succ, List.getElem?_cons_zero, Option.some.injEq] at ho; subst ho)
                · refine ⟨by rw [Reg.wants rfl rfl rfl (hgt 2 (by decide) (by decide))]; rfl, Reg.step_k fun Z9 hZ => ?_⟩
                  clear hgt hd11 hd12
                  simp [Reg.deps, Region.binds] at hd2
                  go_simp
                  refine Calls.mono (show Calls _ _ _ _ _ from HSM9.out) ?_
                  rintro e w' ⟨rfl, h1⟩
                  exact hZ _ _ ⟨_, rfl, h1, rfl⟩
                · refine ⟨by rw [Reg.wants rfl rfl rfl (hgt 7 (by decide) (by decide))]; rfl, Reg.step_k fun Z9 hZ => ?_⟩
                  clear hgt hd11 hd12
                  simp [Reg.deps, Region.binds] at hd2
                  go_simp
                  refine Calls.mono (show Calls _ _ _ _ _ from HSZ9.out) ?_
                  rintro e w' ⟨rfl, h1⟩
                  exact hZ _ _ ⟨_, rfl, h1, rfl⟩
                · refine ⟨by rw [Reg.wants rfl rfl rfl (hgt 7 (by decide) (by decide))]; rfl, Reg.step_k fun Z9 hZ => ?_⟩
                  clear hgt hd11 hd12
                  simp [Reg.deps, Region.binds] at hd2
                  go_simp
                  refine Calls.mono (show Calls _ _ _ _ _ from HCT9.out) ?_
                  rintro e w' ⟨v9, rfl, h1, d9, h2⟩
                  exact hZ _ _ ⟨_, rfl, h1, d9, h2.lo (Nat.zero_le _)⟩
                · obtain ⟨d9, h9⟩ := hd11 (by decide)
                  obtain ⟨v9, hv9⟩ : ∃ v9, a9.eval (.tmp 92) = v9 := ⟨_, rfl⟩
                  rw [hv9] at h9
                  have f92 := Reg.ev_get hv9
                  have HS9 := hideR (t_Size d9 u9 t v9 h9)
                  refine ⟨by rw [Reg.wants rfl rfl rfl (hgt 7 (by decide) (by decide))]; rfl, Reg.step_k fun Z9 hZ => ?_⟩
                  clear hgt hd11 hd12 hv9 h9
                  simp [Reg.deps, Region.binds] at hd2
                  go_simp
                  refine Calls.mono (show Calls _ _ _ _ _ from HS9.out) ?_
                  rintro e w' ⟨rfl, h1⟩
                  exact hZ _ _ ⟨_, rfl, h1, _, rfl, HCL.out _⟩
                · obtain ⟨ct, h93, hct⟩ := hd12 (by decide)
                  have f93 := Reg.ev_get h93
                  have q1 : decide ((cu : Int) ≥ (ct : Int)) = true := decide_eq_true (by omega)
                  have q2 : decide ((ct : Int) ≤ (cu : Int)) = true := decide_eq_true (by omega)
                  refine ⟨by rw [Reg.wants rfl rfl rfl (hgt 7 (by decide) (by decide))]; rfl, Reg.step_k fun Z9 hZ => ?_⟩
                  clear hgt hd11 hd12 h93
                  simp [Reg.deps, Region.binds] at hd2
                  go_simp
                  first
                  | exact hZ _ _ ⟨_, rfl, Below.refl _ _, rfl⟩
                  | exact hZ _ _ ⟨_, rfl, Below.refl _ _, by simp [*]⟩
                · refine ⟨by rw [Reg.wants rfl rfl rfl (hgt 15 (by decide) (by decide))]; rfl, Reg.step_k fun Z9 hZ => ?_⟩
                  clear hgt hd11 hd12
                  simp [Reg.deps, Region.binds] at hd2
                  go_simp
                  refine Calls.mono (show Calls _ _ _ _ _ from HWK.out) ?_
                  rintro e w' ⟨rfl, h1⟩
                  exact hZ _ _ ⟨_, rfl, h1, rfl⟩
              case ht12 =>
                intro a9 u9 hF hB hG
                obtain ⟨xl, hxl, rfl, hev⟩ := hF.lit (by simp)
                obtain ⟨a0, a1, a2, a3, a4, a5, a6, a7, a8, a9, b0, b1, b2, b3, b4, b5, b6, b7, rfl⟩ := plen18 hxl
                obtain rfl : b7 = .bool true := (hev 17 (by decide)).symm.trans (hG 17 (by decide))
                have HB9 := hideR (below_go HB.out (below_go HB7.out hB))
                clear hev hxl hF hG hB HB7 HX7 HXU HXT HSM7 HSZ7 HCT HCL
                simp only [List.take_succ_cons, List.take_zero, List.drop_succ_cons, List.drop_zero, List.cons_append, List.nil_append]
                go_wp2
                go_ret
                exact ⟨rfl, HB9.out⟩
          · have q1 : decide ((i : Int) < (l.length : Int)) = false := decide_eq_false (by omega)
            clear HE
            have hx1 := (HW.out.block _ (Array.getElem?_eq_some_iff.1 HX.out).1).trans HX.out
            have z0 := put_cell hx1 0 _ rfl
            have z1 := put_cell hx1 1 _ rfl
            have z2 := put_cell hx1 2 _ rfl
            have z3 := put_cell hx1 3 _ rfl
            have HC1 := hideR (HCP.out HFT.out wr HW.out)
            clear hx1
            go_wp2_with fail
            refine Calls.mono (show Calls _ _ _ _ _ from HC1.out) ?_
            rintro e u1 ⟨v1, rfl, hb1, hty1⟩
            have hs1 := HS.out.bel hb1
            have hlr := HS.out.lt
            have hslr : ∀ k, SX p vs k → k < wr.heap.size := fun k hk => by
              rcases hk with h | h
              · rw [h]; exact hlr.1
              · exact hlr.2 k h
            obtain ⟨e1, he1, hI1⟩ := InX.of2 (S := SX p vs) hty1 (fun k hk hs => by have := hslr k hs; omega) HFT.out HSM.out.2
            have HA1 := hideR (t_ApplyP HM.out.1 u1 hs1 (fun k hk => Nat.lt_of_lt_of_le (hslr k hk) hb1.size) hI1)
            have HI1 := hideR hI1
            have HW1 := hideR (below_go HW.out hb1)
            have HOW := hideR (show ∀ k, SX p vs k → k < u1.heap.size from fun k hk => Nat.lt_of_lt_of_le (hslr k hk) hb1.size)
            have HGD := hideR hs1.gd
            clear hb1 hty1 hs1 hlr hslr hI1 HC1 HS HW z0 z1 z2 z3
            go_wp2_with fail
            refine Calls.mono (show Calls _ _ _ _ _ from HA1.out) ?_
            rintro e u2 ⟨va, za, rfl, hs2, hk2, hsaid⟩
            have HW2 := hideR (hk2.bel HW1.out HLO.out.2)
            rcases hsaid with ⟨_, rfl, rfl⟩ | ⟨htk, hne, rfl, rfl⟩ | ⟨htk, hlk, rfl, hty2⟩
            · clear HA1 HI1 HW1 HOW HGD
              have HWE := hideR HW2.out
              obtain ⟨W4, hW4⟩ : ∃ W4, W4 = u2.alloc (.cells #[.int .i64 0, .string ⟨#[]⟩, .int .i64 0, .slice none 0 0] 34) := ⟨_, rfl⟩
              have hb4 : Below u2.heap.size u2 W4 := by rw [hW4]; exact new_on' _ _
              have hx4 : W4.heap[u2.heap.size]? = some (.cells #[.int .i64 0, .string ⟨#[]⟩, .int .i64 0, .slice none 0 0] 34 (0, 0)) := by rw [hW4]; exact heap_alloc_new u2 _
              obtain ⟨W5, hW5, hth5, hbk5, hbl5, hne5⟩ := put4 (w := u2) (z := #[.int .i64 0, .string ⟨#[]⟩, .int .i64 0, .slice none 0 0]) (vs := #[.int .i64 0, .string ⟨#[]⟩, .int .i64 0, .slice none 0 0]) rfl hx4 hb4 (Nat.le_refl _)
              have HT5 := hideR hth5; have HW5 := hideR hW5
              have c0 := put_cell hbk5 0 _ rfl
              have HB5 := hideR (below_go HW2.out hbl5)
              have HWK := hideR (wakesC W5)
              clear hb4 hx4 hth5 hbk5 hbl5 hne5 hW5 hs2 hk2
              go_wp2_with (first | (rw [← hW4]; refine wpList_store_mid rfl 34 (.tmp 10) (.tmp 56) rfl u2.heap.size 0 #[.int .i64 0, .string ⟨#[]⟩, .int .i64 0, .slice none 0 0] rfl rfl HT5.out sizeTy' (by simp [Value.oneCell']) ?_; rw [HW5.out]) | fail)
              refine Calls.mono (show Calls _ _ _ _ _ from HWK.out) ?_
              rintro e w9 ⟨rfl, hb9⟩
              have HB9 := hideR (below_go HB.out (below_go HB5.out hb9))
              clear hb9 HWK c0
              go_wp2
              go_ret
              exact ⟨rfl, HB9.out⟩
            · have h3 : (lkT h 0 m 0 t).1 = 3 := (lkT_03 HGD.out m 0 e1 t (HI1.out.gp htk)).resolve_left hne
              rw [h3]
              clear htk hne h3 HA1 HI1 HW1 HOW HGD
              have HWE := hideR HW2.out
              obtain ⟨W4, hW4⟩ : ∃ W4, W4 = u2.alloc (.cells #[.int .i64 0, .string ⟨#[]⟩, .int .i64 0, .slice none 0 0] 34) := ⟨_, rfl⟩
              have hb4 : Below u2.heap.size u2 W4 := by rw [hW4]; exact new_on' _ _
              have hx4 : W4.heap[u2.heap.size]? = some (.cells #[.int .i64 0, .string ⟨#[]⟩, .int .i64 0, .slice none 0 0] 34 (0, 0)) := by rw [hW4]; exact heap_alloc_new u2 _
              obtain ⟨W5, hW5, hth5, hbk5, hbl5, hne5⟩ := put4 (w := u2) (z := #[.int .i64 0, .string ⟨#[]⟩, .int .i64 0, .slice none 0 0]) (vs := #[.int .i64 0, .string ⟨#[]⟩, .int .i64 0, .slice none 0 0]) rfl hx4 hb4 (Nat.le_refl _)
              have HT5 := hideR hth5; have HW5 := hideR hW5
              have c0 := put_cell hbk5 0 _ rfl
              have HB5 := hideR (below_go HW2.out hbl5)
              have HWK := hideR (wakesC W5)
              clear hb4 hx4 hth5 hbk5 hbl5 hne5 hW5 hs2 hk2
              go_wp2_with (first | (rw [← hW4]; refine wpList_store_mid rfl 34 (.tmp 10) (.tmp 56) rfl u2.heap.size 0 #[.int .i64 0, .string ⟨#[]⟩, .int .i64 0, .slice none 0 0] rfl rfl HT5.out sizeTy' (by simp [Value.oneCell']) ?_; rw [HW5.out]) | fail)
              refine Calls.mono (show Calls _ _ _ _ _ from HWK.out) ?_
              rintro e w9 ⟨rfl, hb9⟩
              have HB9 := hideR (below_go HB.out (below_go HB5.out hb9))
              clear hb9 HWK c0
              go_wp2
              go_ret
              exact ⟨rfl, HB9.out⟩
            · have bm := bt_main HGD.out m 0 e1 t (HI1.out.gp htk) hlk
              have hok := lkT_ok m 0 t hlk
              have hcn : ∀ e, cnT e 0 t ≤ (lkT h 0 m 0 t).2 := cn_le m 0 0 e1 t (Nat.le_refl _) (HI1.out.gp htk) hlk
              have hlU : (lkT h 0 m 0 (btT h m t)).1 = 0 := by rw [bm.2.2.2.2.1]; exact hlk
              have hbU : btT h m (btT h m t) = btT h m t := bm.2.2.2.2.2.1
              have hfU := bm.2.2.1
              have hsU := bm.2.2.2.1
              have hgU := bm.2.1
              have hcU := bm.1
              generalize btT h m t = U at *
              generalize (lkT h 0 m 0 t).2 = cu at *
              obtain ⟨k2, x2, n2, r2, rfl, hone2⟩ := hty2.val
              obtain ⟨W4, hW4⟩ : ∃ W4, W4 = u2.alloc (.cells #[.int .i64 0, .string ⟨#[]⟩, .int .i64 0, .slice none 0 0] 34) := ⟨_, rfl⟩
              have hb4 : Below u2.heap.size u2 W4 := by rw [hW4]; exact new_on' _ _
              have hx4 : W4.heap[u2.heap.size]? = some (.cells #[.int .i64 0, .string ⟨#[]⟩, .int .i64 0, .slice none 0 0] 34 (0, 0)) := by rw [hW4]; exact heap_alloc_new u2 _
              obtain ⟨W5, hW5, hth5, hbk5, hbl5, hne5⟩ := put4 (w := u2) (z := #[.int .i64 0, .string ⟨#[]⟩, .int .i64 0, .slice none 0 0]) (vs := #[.int .i64 k2, .string x2, .int .i64 n2, r2]) rfl hx4 hb4 (Nat.le_refl _)
              have HT5 := hideR hth5; have HW5 := hideR hW5; have HX5 := hideR hbk5
              have hs5 := hs2.bel hbl5
              have HB5 := hideR (below_go HW2.out hbl5)
              obtain ⟨dU, hvU⟩ : ∃ dU, m ≤ dU ∧ AtX (SX p vs) W5 dU U (.agg #[.int .i64 k2, .string x2, .int .i64 n2, r2]) := by
                obtain ⟨ka, xa, na, ea, ua, h1, h2, d9, h3⟩ := hty2
                exact ⟨m + d9, by omega, ka, xa, na, ea, ua, h1, h2, h3.imp fun b o t _ h => up_le (F := TyX false (SX p vs) W5) (d := d9) TyX.up (by omega) (TyX.weak (f := false) _ _ _ _ (h.on (S' := SX p vs) (fun k _ hl => hbl5.block k hl) fun k _ hk => HOW.out k hk))⟩
              have hfD : few dU U := by
                have hf2 : ∀ e, few (m + e) U := fun e => by
                  induction e with
                  | zero => exact hfU
                  | succ e ih => exact few_up _ _ ih
                have := hf2 (dU - m)
                rw [show m + (dU - m) = dU by omega] at this
                exact this
              have HVU := hideR hvU.2
              have HCC := hideR (fun (u9 : World) (hu : Below W5.heap.size W5 u9) => t_copied dU u9 U _ (hvU.2.tyv.but (Abv.of hu)) hfD)
              have HCC5 := hideR (HCC.out W5 (Below.refl _ _))
              have c0 := put_cell hbk5 0 _ rfl
              have c1 := put_cell hbk5 1 _ rfl
              have c2 := put_cell hbk5 2 _ rfl
              have c3 := put_cell hbk5 3 _ rfl
              have hu12 : u1.heap.size ≤ u2.heap.size := hk2.size
              have HOW2 := hideR (show ∀ k, SX p vs k → k < u2.heap.size from fun k hk => Nat.lt_of_lt_of_le (HOW.out k hk) hu12)
              have HS5 := hideR hs5
              have HFD := hideR hfU
              have HSU := hideR hsU
              have HLU := hideR hlU
              have HBU := hideR hbU
              have HCN := hideR (And.intro hcn (And.intro hcU (And.intro hgU (And.intro hok hvU.1))))
              have hbl5s := hbl5.size
              have HZ5 := hideR hbl5s
              clear hs2 hk2 htk hlk hty2 bm hok hcn hlU hbU hfU hsU hgU hcU hb4 hx4 hth5 hbk5 hbl5 hne5 hW5 hs5 hvU hfD hu12 hbl5s HA1 HI1 HW1 HOW HW2
              go_wp2_with (first | (rw [← hW4]; refine wpList_store_mid rfl 34 (.tmp 10) (.tmp 56) rfl u2.heap.size 0 #[.int .i64 k2, .string x2, .int .i64 n2, r2] rfl rfl HT5.out sizeTy' (by simp [Value.oneCell'] at hone2 ⊢; exact hone2) ?_; rw [HW5.out]) | fail)
              clear hW4 HT5 HW5
              refine Calls.mono (show Calls _ _ _ _ _ from HCC5.out) ?_
              rintro e u3 ⟨v3, rfl, hb3, hty3⟩
              have hs3 := HS5.out.bel hb3
              have hc5 : ∀ k, SX p vs k → k < W5.heap.size := fun k hk => Nat.lt_of_lt_of_le (HOW2.out k hk) HZ5.out
              obtain ⟨e3, he3, hI3⟩ := InX.of2 (S := SX p vs) hty3 (fun k hk hs => by have := hc5 k hs; omega) HFD.out HSU.out
              have HA3 := hideR (t_ApplyP HM.out.1 u3 hs3 (fun k hk => Nat.lt_of_lt_of_le (hc5 k hk) hb3.size) hI3)
              have htk3 : tkT n e3 U = true := by
                unfold tkT
                rw [Bool.and_eq_true, decide_eq_true_eq]
                refine ⟨?_, ?_⟩
                · have h1 := HCN.out.2.1 (e3 + 1 - m)
                  rw [show m + (e3 + 1 - m) = e3 + 1 by omega] at h1
                  rw [h1]; exact HCN.out.2.2.2.1.2
                · have h1 : ∀ e, gdT n (m + e) U = true := fun e => by
                    induction e with
                    | zero => exact HCN.out.2.2.1
                    | succ e ih => exact gdT_up _ _ ih
                  have h2 := h1 (e3 + 1 - m)
                  rw [show m + (e3 + 1 - m) = e3 + 1 by omega] at h2
                  exact h2
              have HTK3 := hideR htk3
              have HB3 := hideR (below_go HB5.out hb3)
              have HX3 := hideR ((hb3.block _ (Array.getElem?_eq_some_iff.1 HX5.out).1).trans HX5.out)
              have HV3 := hideR (HVU.out.on (w' := u3) fun k hk _ => hb3.block k hk)
              have hW53 := hb3.size
              have HW53 := hideR hW53
              clear hW53 hb3 hty3 hs3 hc5 he3 hI3 htk3 HCC5 HCC HS5 HX5 HVU HB5 c0 c1 c2 c3
              go_wp2_with fail
              refine Calls.mono (show Calls _ _ _ _ _ from HA3.out) ?_
              rintro e u4 ⟨v4, z4', rfl, _, hk4, hsaid⟩
              obtain ⟨rfl, hty4⟩ : z4' = 0 ∧ tyU u3.heap.size U v4 u4 := by
                rcases hsaid with ⟨h0, _⟩ | ⟨_, h0, _⟩ | ⟨_, _, h1, h2⟩
                · rw [HTK3.out] at h0; cases h0
                · exact absurd HLU.out h0
                · rw [HBU.out] at h2; exact ⟨h1, h2⟩
              obtain ⟨k4, x4, n4, r4, rfl, hone4⟩ := hty4.val
              have HB4 := hideR (hk4.bel HB3.out HLO.out.2)
              have hx4 : u4.heap[u2.heap.size]? = some (.cells #[.int .i64 k2, .string x2, .int .i64 n2, r2] 34 (0, 0)) := (hk4.block _ (Array.getElem?_eq_some_iff.1 HX3.out).1 (fun e => by have := HOW2.out _ (.inr e); omega)).trans HX3.out
              obtain ⟨W6, hW6⟩ : ∃ W6, W6 = u4.alloc (.cells #[.int .i64 0, .string ⟨#[]⟩, .int .i64 0, .slice none 0 0] 34) := ⟨_, rfl⟩
              have hb6 : Below u4.heap.size u4 W6 := by rw [hW6]; exact new_on' _ _
              have hx6 : W6.heap[u4.heap.size]? = some (.cells #[.int .i64 0, .string ⟨#[]⟩, .int .i64 0, .slice none 0 0] 34 (0, 0)) := by rw [hW6]; exact heap_alloc_new u4 _
              obtain ⟨W7, hW7, hth7, hbk7, hbl7, hne7⟩ := put4 (w := u4) (z := #[.int .i64 0, .string ⟨#[]⟩, .int .i64 0, .slice none 0 0]) (vs := #[.int .i64 k4, .string x4, .int .i64 n4, r4]) rfl hx6 hb6 (Nat.le_refl _)
              have HT7 := hideR hth7; have HW7 := hideR hW7; have HX7 := hideR hbk7
              have HB7 := hideR (below_go HB4.out hbl7)
              have HXU := hideR ((hbl7.block _ (Array.getElem?_eq_some_iff.1 hx4).1).trans hx4)
              have HXT := hideR ((HB7.out.block _ (Array.getElem?_eq_some_iff.1 HX.out).1).trans HX.out)
              have hkb : ∀ k, k < u3.heap.size → vs.ownBlock ≠ some k → W7.heap[k]? = u3.heap[k]? := fun k hk ho => (hbl7.block k (Nat.lt_of_lt_of_le hk hk4.size)).trans (hk4.block k hk ho)
              have hVU : AtX (SX p vs) W7 dU U (.agg #[.int .i64 k2, .string x2, .int .i64 n2, r2]) := HV3.out.on fun k hk hn => hkb k hk (fun e => hn (.inr e))
              obtain ⟨dd, hdd, hV2, hV4⟩ : ∃ dd, dU ≤ dd ∧ TyV 0 dd W7 U (.agg #[.int .i64 k2, .string x2, .int .i64 n2, r2]) ∧ TyV 0 dd W7 U (.agg #[.int .i64 k4, .string x4, .int .i64 n4, r4]) := by
                obtain ⟨d4, hv4⟩ := (hty4.on (C := 0) (Abv.of hbl7) (Nat.zero_le _)).toO
                exact ⟨dU + d4, by omega, hVU.tyv.up (by omega), hv4.up (by omega)⟩
              have hcu : cnT (dd + 1) 0 U = cu := by
                have h1 := HCN.out.2.1 (dd + 1 - m)
                rw [show m + (dd + 1 - m) = dd + 1 by have := HCN.out.2.2.2.2; omega] at h1
                exact h1
              have HSM7 := hideR (fun (u9 : World) (hu : Below W7.heap.size W7 u9) => t_dSame0 (hV2.but (Abv.of hu)) (hV4.but (Abv.of hu)))
              have HSZ7 := hideR (fun (u9 : World) (hu : Below W7.heap.size W7 u9) => (by have h := t_Size dd u9 U _ (hV2.but (Abv.of hu)); rw [hcu] at h; exact h : Calls Try.prog 21 #[.agg #[.int .i64 k2, .string x2, .int .i64 n2, r2]] u9 fun e w' => e = .returned (.int .i64 ((cu : Nat) : Int)) ∧ Below u9.heap.size u9 w'))
              have HCT := hideR (HCP.out HFT.out)
              have HCL := hideR HCN.out.1
              clear hk4 hsaid hty4 hx4 hb6 hx6 hth7 hbk7 hbl7 hne7 hW7 hkb hVU hdd hV2 hV4 hcu HA3 HB3 HX3 HV3 HTK3 HB4 HCN HFD HSU HLU HBU HGD HOW2 HZ5 HW53
              go_wp2_with (first | (rw [← hW6]; refine wpList_store_mid rfl 34 (.tmp 12) (.tmp 79) rfl u4.heap.size 0 #[.int .i64 k4, .string x4, .int .i64 n4, r4] rfl rfl HT7.out sizeTy' (by simp [Value.oneCell'] at hone4 ⊢; exact hone4) ?_; rw [HW7.out]) | fail)
              clear hW6 HT7 HW7
              refine Reg.wp_region_effh 18 (fun i => 81 + i) (fun _ u u' => Below u.heap.size u u') (fun u => Below W7.heap.size W7 u) (fun _ _ => True) (fun i v u => if i = 11 then ∃ d, TyV 0 d u t v else if i = 12 then ∃ ct : Nat, v = .int .i64 (ct : Int) ∧ ct ≤ cu else v = ([.int .i64 0, .bool true, .bool true, .agg #[.int .i64 k2, .string x2, .int .i64 n2, r2], .agg #[.int .i64 k4, .string x4, .int .i64 n4, r4], .bool true, .bool true, .bool true, .agg #[.int .i64 k2, .string x2, .int .i64 n2, r2], .int .i64 (cu : Int), .agg #[.int .i64 k, .string x, .int .i64 n0, uT], undef, undef, .bool true, .bool true, .bool true, .bool true, .bool true] : List Value).getD i undef) (by kernel_rfl) (by kernel_rfl) (fun i1 i2 h1 h2 h => by have h' : 81 + i1 = 81 + i2 := h; omega) (Reg.dst_okG (dst := fun i => 81 + i) (size := 99) (by kernel_rfl)) (fun i k v u u' _ _ _ _ h hb => by
                by_cases h3 : i = 11
                · rw [if_pos h3] at h ⊢; obtain ⟨d, h⟩ := h; exact ⟨d, h.but (Abv.of hb)⟩
                · rw [if_neg h3] at h ⊢
                  by_cases h5 : i = 12
                  · rw [if_pos h5] at h ⊢; exact h
                  · rw [if_neg h5] at h ⊢; exact h) (fun _ _ _ _ _ _ _ _ _ => trivial) (fun k u u' _ hk hT => below_go hk hT) ?hs12 ?ht12 (below_drewN' W7 1) (fun _ _ => trivial)
              case hs12 =>
                intro i o' a9 u9 hi ho hF hB _ hd
                have f5 : a9.tmps[5]?.getD undef = .pointer (some ⟨w.heap.size, 0, none⟩) := Reg.ev_get (hF.eval 5 (fun i hi => by show 81 + i ≠ 5; omega))
                have f10 : a9.tmps[10]?.getD undef = .pointer (some ⟨u2.heap.size, 0, none⟩) := Reg.ev_get (hF.eval 10 (fun i hi => by show 81 + i ≠ 10; omega))
                have f12 : a9.tmps[12]?.getD undef = .pointer (some ⟨u4.heap.size, 0, none⟩) := Reg.ev_get (hF.eval 12 (fun i hi => by show 81 + i ≠ 12; omega))
                have f13 : a9.tmps[13]?.getD undef = .int .i64 0 := Reg.ev_get (hF.eval 13 (fun i hi => by show 81 + i ≠ 13; omega))
                have hxa := (hB.block _ (Array.getElem?_eq_some_iff.1 HXU.out).1).trans HXU.out
                have hxb := (hB.block _ (Array.getElem?_eq_some_iff.1 HX7.out).1).trans HX7.out
                have hxc := (hB.block _ (Array.getElem?_eq_some_iff.1 HXT.out).1).trans HXT.out
                have c0 := put_cell hxa 0 _ rfl
                have c1 := put_cell hxa 1 _ rfl
                have c2 := put_cell hxa 2 _ rfl
                have c3 := put_cell hxa 3 _ rfl
                have b0 := put_cell hxb 0 _ rfl
                have b1 := put_cell hxb 1 _ rfl
                have b2 := put_cell hxb 2 _ rfl
                have b3 := put_cell hxb 3 _ rfl
                have t0 := put_cell hxc 0 _ rfl
                have t1 := put_cell hxc 1 _ rfl
                have t2 := put_cell hxc 2 _ rfl
                have t3 := put_cell hxc 3 _ rfl
                have HSM9 := hideR (HSM7.out u9 hB)
                have HSZ9 := hideR (HSZ7.out u9 hB)
                have HCT9 := hideR (HCT.out u9 (below_go HB7.out hB))
                have HWK := hideR (wakesC u9)
                have hd2 : ∀ j2 ∈ Reg.deps o', j2 ≠ 11 → j2 ≠ 12 → a9.tmps[81 + j2]?.getD undef = ([.int .i64 0, .bool true, .bool true, .agg #[.int .i64 k2, .string x2, .int .i64 n2, r2], .agg #[.int .i64 k4, .string x4, .int .i64 n4, r4], .bool true, .bool true, .bool true, .agg #[.int .i64 k2, .string x2, .int .i64 n2, r2], .int .i64 (cu : Int), .agg #[.int .i64 k, .string x, .int .i64 n0, uT], undef, undef, .bool true, .bool true, .bool true, .bool true, .bool true] : List Value).getD j2 undef := fun j2 hj2 h3 h5 => by
                  have h := hd j2 hj2
                  rw [if_neg h3, if_neg h5] at h
                  exact Reg.ev_get h
                have hgt : ∀ j2, j2 ∈ Reg.deps o' → (j2 = 2 ∨ j2 = 7 ∨ j2 = 15) → a9.eval (.tmp (81 + j2)) = .bool true := fun j2 hj2 hc => by
                  have h := hd j2 hj2
                  rw [if_neg (by omega), if_neg (by omega)] at h
                  rcases hc with rfl | rfl | rfl <;> exact h
                have hd11 : 11 ∈ Reg.deps o' → ∃ d, TyV 0 d u9 t (a9.eval (.tmp 92)) := fun h5 => by
                  have h := hd 11 h5
                  rw [if_pos rfl] at h
                  exact h
                have hd12 : 12 ∈ Reg.deps o' → ∃ ct : Nat, a9.eval (.tmp 93) = .int .i64 (ct : Int) ∧ ct ≤ cu := fun h5 => by
                  have h := hd 12 h5
                  rw [if_neg (by decide), if_pos rfl] at h
                  exact h
                clear hd hxa hxb hxc
                rcases (by omega : (i ≠ 5 ∧ i ≠ 9 ∧ i ≠ 11 ∧ i ≠ 12 ∧ i ≠ 13 ∧ i ≠ 16) ∨ i = 5 ∨ i = 9 ∨ i = 11 ∨ i = 12 ∨ i = 13 ∨ i = 16) with hn | rfl | rfl | rfl | rfl | rfl | rfl
                · clear hd11 hd12 HSM9 HSZ9 HCT9 HWK
                  rcases (by omega : i = 0 ∨ i = 1 ∨ i = 2 ∨ i = 3 ∨ i = 4 ∨ i = 6 ∨ i = 7 ∨ i = 8 ∨ i = 10 ∨ i = 14 ∨ i = 15 ∨ i = 17) with rfl | rfl | rfl | rfl | rfl | rfl | rfl | rfl | rfl | rfl | rfl | rfl
                  all_goals (
                    simp only [List.getElem?_toArray, List.getElem?_cons_succ, List.getElem?_cons_zero, Option.some.injEq] at ho
                    subst ho
                    refine ⟨?_, Reg.step_k fun Z9 hZ => ?_⟩
                    · first
                      | (simp [Region.wanted]; done)
                      | (rw [Reg.wants rfl rfl rfl (hgt 2 (by decide) (by decide))]; rfl)
                      | (rw [Reg.wants rfl rfl rfl (hgt 7 (by decide) (by decide))]; rfl)
                      | (rw [Reg.wants rfl rfl rfl (hgt 15 (by decide) (by decide))]; rfl)
                    · clear hgt hn
                      simp [Reg.deps, Region.binds] at hd2
                      go_simp
                      first
                      | exact hZ _ _ ⟨_, rfl, Below.refl _ _, rfl⟩
                      | exact hZ _ _ ⟨_, rfl, Below.refl _ _, by simp [*]⟩)
                all_goals (simp only [List.getElem?_toArray, List.getElem?_cons_succ, List.getElem?_cons_zero, Option.some.injEq] at ho; subst ho)
                · refine ⟨by rw [Reg.wants rfl rfl rfl (hgt 2 (by decide) (by decide))]; rfl, Reg.step_k fun Z9 hZ => ?_⟩
                  clear hgt hd11 hd12
                  simp [Reg.deps, Region.binds] at hd2
                  go_simp
                  refine Calls.mono (show Calls _ _ _ _ _ from HSM9.out) ?_
                  rintro e w' ⟨rfl, h1⟩
                  exact hZ _ _ ⟨_, rfl, h1, rfl⟩
                · refine ⟨by rw [Reg.wants rfl rfl rfl (hgt 7 (by decide) (by decide))]; rfl, Reg.step_k fun Z9 hZ => ?_⟩
                  clear hgt hd11 hd12
                  simp [Reg.deps, Region.binds] at hd2
                  go_simp
                  refine Calls.mono (show Calls _ _ _ _ _ from HSZ9.out) ?_
                  rintro e w' ⟨rfl, h1⟩
                  exact hZ _ _ ⟨_, rfl, h1, rfl⟩
                · refine ⟨by rw [Reg.wants rfl rfl rfl (hgt 7 (by decide) (by decide))]; rfl, Reg.step_k fun Z9 hZ => ?_⟩
                  clear hgt hd11 hd12
                  simp [Reg.deps, Region.binds] at hd2
                  go_simp
                  refine Calls.mono (show Calls _ _ _ _ _ from HCT9.out) ?_
                  rintro e w' ⟨v9, rfl, h1, d9, h2⟩
                  exact hZ _ _ ⟨_, rfl, h1, d9, h2.lo (Nat.zero_le _)⟩
                · obtain ⟨d9, h9⟩ := hd11 (by decide)
                  obtain ⟨v9, hv9⟩ : ∃ v9, a9.eval (.tmp 92) = v9 := ⟨_, rfl⟩
                  rw [hv9] at h9
                  have f92 := Reg.ev_get hv9
                  have HS9 := hideR (t_Size d9 u9 t v9 h9)
                  refine ⟨by rw [Reg.wants rfl rfl rfl (hgt 7 (by decide) (by decide))]; rfl, Reg.step_k fun Z9 hZ => ?_⟩
                  clear hgt hd11 hd12 hv9 h9
                  simp [Reg.deps, Region.binds] at hd2
                  go_simp
                  refine Calls.mono (show Calls _ _ _ _ _ from HS9.out) ?_
                  rintro e w' ⟨rfl, h1⟩
                  exact hZ _ _ ⟨_, rfl, h1, _, rfl, HCL.out _⟩
                · obtain ⟨ct, h93, hct⟩ := hd12 (by decide)
                  have f93 := Reg.ev_get h93
                  have q1 : decide ((cu : Int) ≥ (ct : Int)) = true := decide_eq_true (by omega)
                  have q2 : decide ((ct : Int) ≤ (cu : Int)) = true := decide_eq_true (by omega)
                  refine ⟨by rw [Reg.wants rfl rfl rfl (hgt 7 (by decide) (by decide))]; rfl, Reg.step_k fun Z9 hZ => ?_⟩
                  clear hgt hd11 hd12 h93
                  simp [Reg.deps, Region.binds] at hd2
                  go_simp
                  first
                  | exact hZ _ _ ⟨_, rfl, Below.refl _ _, rfl⟩
                  | exact hZ _ _ ⟨_, rfl, Below.refl _ _, by simp [*]⟩
                · refine ⟨by rw [Reg.wants rfl rfl rfl (hgt 15 (by decide) (by decide))]; rfl, Reg.step_k fun Z9 hZ => ?_⟩
                  clear hgt hd11 hd12
                  simp [Reg.deps, Region.binds] at hd2
                  go_simp
                  refine Calls.mono (show Calls _ _ _ _ _ from HWK.out) ?_
                  rintro e w' ⟨rfl, h1⟩
                  exact hZ _ _ ⟨_, rfl, h1, rfl⟩
              case ht12 =>
                intro a9 u9 hF hB hG
                obtain ⟨xl, hxl, rfl, hev⟩ := hF.lit (by simp)
                obtain ⟨a0, a1, a2, a3, a4, a5, a6, a7, a8, a9, b0, b1, b2, b3, b4, b5, b6, b7, rfl⟩ := plen18 hxl
                obtain rfl : b7 = .bool true := (hev 17 (by decide)).symm.trans (hG 17 (by decide))
                have HB9 := hideR (below_go HB.out (below_go HB7.out hB))
                clear hev hxl hF hG hB HB7 HX7 HXU HXT HSM7 HSZ7 HCT HCL
                simp only [List.take_succ_cons, List.take_zero, List.drop_succ_cons, List.drop_zero, List.cons_append, List.nil_append]
                go_wp2
                go_ret
                exact ⟨rfl, HB9.out⟩
end Go.Proofs.Ytboicnmkcpghdaa
