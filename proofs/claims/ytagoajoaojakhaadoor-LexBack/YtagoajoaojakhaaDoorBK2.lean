/- Tokens that were written are read as they were: LexBack: printed by gen_bk.py out of TX10. -/
import Derived.Test.YtagoajoaojakhaaDoorTX10
import Derived.Test.YtagoajoaojakhaaDoorBK0
import Derived.Test.YtagoajoaojakhaaDoorBK1
import Derived.Test.YtagoajoaojakhaaDoorA17
namespace Go.Proofs.YtagoajoaojakhaaDoor
open Go.RowKit Lx
set_option linter.unusedVariables false
set_option maxRecDepth 100000 in
set_option maxHeartbeats 8000000 in
theorem backC (v : Value) (l : List Tk) (w : World) (hWL : WL w) (hT : TP w) (hv : TkR w v l) (hN : TkN l) :
    Calls Tryd.prog 4 #[v] w fun e w' => e = .returned (.bool true) ∧ Below w.heap.size w w' := by
  obtain ⟨o, c, hvv, hno, hcl⟩ := tkR_news hv
  subst hvv
  by_cases h5 : 5000 < l.length
  · have q0 : decide ((l.length : Int) > 5000) = true := decide_eq_true (by omega)
    have HW := hideR (lWakes w hWL)
    clear hv hN hWL hT h5 hno hcl
    go_enter Tryd.func4, Tryd.ntmps4
    go_wp2_with fail
    refine HW.out.mono ?_
    rintro e u ⟨rfl, hb⟩
    have HB := hideR hb
    clear hb
    go_wp2
    go_ret
    exact ⟨rfl, HB.out⟩
  · have q0 : decide ((l.length : Int) > 5000) = false := decide_eq_false (by omega)
    obtain ⟨i0, hi, hz0, hz1, hz2⟩ := info_parts infoT
    have HV := hideR hv
    have HN := hideR hN
    have HWL := hideR hWL
    have HT := hideR hT
    have H5 := hideR h5
    have HNO := hideR hno
    have HCL := hideR hcl
    clear hv hN hWL hT h5 hno hcl
    go_enter Tryd.func4, Tryd.ntmps4
    go_wp2_with fail
    go_loop [3] (fun x => ∃ k : Nat, x = .int .i64 k ∧ k ≤ l.length ∧ Hid (∀ t ∈ l.take k, t.x.size ≤ 200)) (fun x => match x with | .int _ k => l.length - k.toNat | _ => 0)
    case atStart => exact ⟨0, rfl, Nat.zero_le _, hideR (fun t ht => by simp at ht)⟩
    case round =>
      obtain ⟨k, rfl, hk, HG⟩ := hrel
      by_cases hkl : k < l.length
      · have q1 : decide ((k : Int) < (l.length : Int)) = true := decide_eq_true (by omega)
        have hw1 : wrap64 ((k : Int) + 1) = ((k + 1 : Nat) : Int) := by have := H5.out; unfold wrap64; omega
        obtain ⟨tt, ht⟩ : ∃ t, l[k]? = some t := ⟨_, List.getElem?_eq_getElem hkl⟩
        obtain ⟨g, off, cg, hvg, hcells⟩ := HV.out.some (by omega)
        injection hvg with ho2 _ hcg
        subst ho2
        have y1 := (hcells k tt ht).c1
        have HTS : Hid (l.take (k + 1) = l.take k ++ [tt]) := hideR (by rw [List.take_add_one, ht]; rfl)
        by_cases hz : 200 < tt.x.size
        · have q2 : decide ((tt.x.size : Int) > 200) = true := decide_eq_true (by omega)
          have HW := hideR (lWakes w HWL.out)
          generalize tt.x = X at *
          clear ht hcells hcg hz HTS
          go_wp2_with fail
          refine HW.out.mono ?_
          rintro e u ⟨rfl, hb⟩
          have HB := hideR hb
          clear hb
          go_wp2
          go_ret
          exact ⟨rfl, HB.out⟩
        · have q2 : decide ((tt.x.size : Int) > 200) = false := decide_eq_false (by omega)
          have HG2 : Hid (∀ t ∈ l.take (k + 1), t.x.size ≤ 200) := hideR (by
            rw [HTS.out]
            intro t ht
            rcases List.mem_append.1 ht with ht | ht
            · exact HG.out t ht
            · simp at ht; subst ht; omega)
          generalize tt.x = X at *
          clear ht hcells hcg hz HTS HG
          go_wp2
          go_round
          case rel => exact ⟨k + 1, by first | rfl | (congr 1), hkl, HG2⟩
          case measure => simp; omega
      · have q1 := aK l.length k hkl
        have hkL : k = l.length := by omega
        have hG := HG.out
        rw [hkL, List.take_length] at hG
        have HBd : Hid (TkB l) := hideR fun t ht => ⟨Nat.le_trans (hG t ht) (by decide), (HN.out t ht).1, (HN.out t ht).2⟩
        have HL63 : Hid (0 + l.length ≤ maxLen ∧ (0 + l.length) * 40 ≤ 140737488355328) := hideR (by have := H5.out; unfold maxLen; omega)
        have HA := hideR (new_on w (.cells #[] 25))
        have HO0 := hideR (own0 w w.heap.size 25 (Nat.le_refl _))
        have HWk := fun (u : World) (hb : Below w.heap.size w u) => hideR (lWakes u (HWL.out.on hb))
        have HFL := hideR (flat_len l)
        have HF1 := hideR (flat_one l)
        have HCL2 : Hid (∀ ad, o = some ad → ∀ j u, (flat l)[j]? = some u → (w.alloc (.cells #[] 25)).cell? (ad.add j) = some u) := hideR fun ad ha j u hu => by
          have h0 := HCL.out ad ha j u hu
          have hlt := World.block_lt_of_cell? _ _ h0
          rw [HA.out.cell hlt]; exact h0
        clear HG hG hkL
        go_wp2_with (first | (at_builtin; refine wpList_appS rfl _ _ 22 rfl w.heap.size 25 i0 _ 4 40 Tryd.underlying22 hi hz0 hz1 hz2 rfl (by decide) _ 0 [] rfl HO0.out o l.length c (flat l) rfl HNO.out HFL.out HCL2.out HF1.out HL63.out.1 HL63.out.2 HA.out.size ?c6))
        case c6 =>
          intro v9 w9 hown9 hgr9 _
          have hb9 : Below w.heap.size w w9 := HA.out.grown hgr9 HA.out.size (fun q hq => by have : w.heap.size = q := by injection hq
                                                                                             omega)
          have hO9 : w9.ownsRow w.heap.size 25 4 v9 l.length (flat l) := by simpa using hown9
          have HT1 := hideR (pText v9 l w9 (tkAt_own hO9) HBd.out (HWL.out.on hb9) (HT.out.on hb9))
          have HB9 := hideR hb9
          obtain ⟨o9, c9, hv9⟩ := own_slice hO9
          subst hv9
          clear hown9 hgr9 hb9 hO9
          by_cases h4 : 4096 < l.length
          · have hR : txt l = (⟨#[]⟩, 3) := if_pos h4
            rw [hR] at HT1
            clear hR h4
            go_wp2_with fail
            refine HT1.out.mono ?_
            rintro e u1 ⟨rfl, hb1⟩
            have HB1 := hideR (below_go HB9.out hb1)
            clear hb1 HT1
            go_wp2_with fail
            refine (HWk _ HB1.out).out.mono ?_
            rintro e u3 ⟨rfl, hb3⟩
            have HB3 := hideR (below_go HB1.out hb3)
            clear hb3 HWk
            go_wp2
            go_ret
            exact ⟨rfl, HB3.out⟩
          · by_cases hg : l.all gdK = false
            · have hR : txt l = (⟨#[]⟩, 1) := by unfold txt; rw [if_neg h4, if_pos hg]
              rw [hR] at HT1
              clear hR h4 hg
              go_wp2_with fail
              refine HT1.out.mono ?_
              rintro e u1 ⟨rfl, hb1⟩
              have HB1 := hideR (below_go HB9.out hb1)
              clear hb1 HT1
              go_wp2_with fail
              refine (HWk _ HB1.out).out.mono ?_
              rintro e u3 ⟨rfl, hb3⟩
              have HB3 := hideR (below_go HB1.out hb3)
              clear hb3 HWk
              go_wp2
              go_ret
              exact ⟨rfl, HB3.out⟩
            · have hall : ∀ t ∈ l, gdK t = true := fun t ht => by
                cases hgt : gdK t with
                | true => rfl
                | false => exact absurd (List.all_eq_false.2 ⟨t, ht, by rw [hgt]; simp⟩) hg
              have hR := txt_ok h4 hall
              by_cases h8 : 8192 < (jnL l).length
              · rw [if_pos h8] at hR
                rw [hR] at HT1
                clear hR h4 hg hall h8
                go_wp2_with fail
                refine HT1.out.mono ?_
                rintro e u1 ⟨rfl, hb1⟩
                have HB1 := hideR (below_go HB9.out hb1)
                clear hb1 HT1
                go_wp2_with fail
                refine (HWk _ HB1.out).out.mono ?_
                rintro e u3 ⟨rfl, hb3⟩
                have HB3 := hideR (below_go HB1.out hb3)
                clear hb3 HWk
                go_wp2
                go_ret
                exact ⟨rfl, HB3.out⟩
              · rw [if_neg h8] at hR
                rw [hR] at HT1
                obtain ⟨K, hK, hLk⟩ := back_ok hall (by omega) (by omega)
                have HLx := fun (u : World) (hb : Below w.heap.size w u) => hideR (pLexO ⟨(jnL l).toArray⟩ u (HWL.out.on hb))
                rw [hK] at HLx
                have HLK := hideR hLk
                have HL4 := hideR (show l.length ≤ 4096 by omega)
                generalize (⟨(jnL l).toArray⟩ : ByteArray) = S at *
                clear hR h4 hg hall h8 hK hLk
                go_wp2_with fail
                refine HT1.out.mono ?_
                rintro e u1 ⟨rfl, hb1⟩
                have HB1 := hideR (below_go HB9.out hb1)
                clear hb1 HT1
                go_wp2_with fail
                refine (HLx _ HB1.out).out.mono ?_
                rintro e u2 ⟨v3, rfl, hT3, hb2⟩
                have HB2 := hideR (below_go HB1.out hb2)
                have hT3' := tkAt_own hT3
                obtain ⟨o3, c3, hv3⟩ := own_slice hT3
                have hv3 : v3 = .slice o3 K.length c3 := hv3
                subst hv3
                have HSm := hideR (rSameR (.slice o l.length c) (.slice o3 K.length c3) l K false u2 (HV.out.on HB2.out) hT3' HLK.out.len HL4.out (fun i t u h1 h2 => by obtain ⟨a, b, d⟩ := HLK.out.at_ i t u h1 h2; exact ⟨a, b, d, fun e => by cases e⟩))
                clear hb2 HLx hT3 hT3'
                go_wp2_with fail
                refine HSm.out.mono ?_
                rintro e u4 ⟨rfl, hb4⟩
                have HB4 := hideR (below_go HB2.out hb4)
                clear hb4 HSm
                go_wp2_with fail
                refine (HWk _ HB4.out).out.mono ?_
                rintro e u3 ⟨rfl, hb3⟩
                have HB3 := hideR (below_go HB4.out hb3)
                clear hb3 HWk
                go_wp2
                go_ret
                exact ⟨rfl, HB3.out⟩
end Go.Proofs.YtagoajoaojakhaaDoor
