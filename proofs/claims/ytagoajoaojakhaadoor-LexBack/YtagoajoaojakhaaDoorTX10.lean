/- Tokens as a text: LexTexts. -/
import Derived.Test.YtagoajoaojakhaaDoorTX9
import Derived.Test.YtagoajoaojakhaaDoorK10g
namespace Go.Proofs.YtagoajoaojakhaaDoor
open Go.RowKit Lx
set_option linter.unusedVariables false
namespace Lx
/-- numbers of 64 bits -/
def TkN (l : List Tk) : Prop := ∀ t ∈ l, -9223372036854775808 ≤ t.n ∧ t.n ≤ 9223372036854775807
theorem flat_one : ∀ (l : List Tk), ∀ u ∈ flat l, u.oneCell' = true
  | [], u, hu => by cases hu
  | t :: l, u, hu => by
    rw [flat] at hu
    rcases List.mem_append.1 hu with hu | hu
    · unfold cs4 at hu
      simp only [List.mem_cons, List.not_mem_nil, or_false] at hu
      rcases hu with rfl | rfl | rfl | rfl <;> rfl
    · exact flat_one l u hu
theorem flat_get {w : World} {b off : Nat} : ∀ {l : List Tk}, (∀ (i : Nat) (x : Tk), l[i]? = some x → TC w b (off + i * 4) x) → ∀ (j : Nat) (u : Value), (flat l)[j]? = some u → w.cell? ((⟨b, off, none⟩ : Addr).add j) = some u := by
  intro l h j u hj
  have hjl : j < (flat l).length := (List.getElem?_eq_some_iff.1 hj).1
  rw [flat_len] at hjl
  obtain ⟨t, ht⟩ : ∃ t, l[j / 4]? = some t := ⟨_, List.getElem?_eq_getElem (by omega)⟩
  have hc := h _ t ht
  have hr : j % 4 < 4 := Nat.mod_lt _ (by decide)
  have hf := fun (i : Nat) (hi : i < 4) => flat_at l (j / 4) t ht i hi
  have e : j = j / 4 * 4 + j % 4 := by omega
  have hk : ∀ i, j % 4 = i → i < 4 → (flat l)[j]? = (cs4 t)[i]? := fun i h1 h2 => by rw [← h1, ← hf _ hr, ← e]
  have hadd : (⟨b, off, none⟩ : Addr).add j = ⟨b, off + j, none⟩ := by simp [Addr.add]
  rw [hadd]
  have h4 : j % 4 = 0 ∨ j % 4 = 1 ∨ j % 4 = 2 ∨ j % 4 = 3 := by omega
  rcases h4 with h4 | h4 | h4 | h4
  · rw [hk 0 h4 (by decide)] at hj
    rw [show off + j = off + j / 4 * 4 by omega, hc.c0]; exact hj
  · rw [hk 1 h4 (by decide)] at hj
    rw [show off + j = off + j / 4 * 4 + 1 by omega, hc.c1]; exact hj
  · rw [hk 2 h4 (by decide)] at hj
    rw [show off + j = off + j / 4 * 4 + 2 by omega, hc.c2]; exact hj
  · rw [hk 3 h4 (by decide)] at hj
    rw [show off + j = off + j / 4 * 4 + 3 by omega, hc.c3]; exact hj
theorem tkR_news {w : World} {v : Value} {l : List Tk} (h : TkR w v l) : ∃ xo c, v = .slice xo l.length c ∧ (xo = none → l.length = 0) ∧ ∀ ad, xo = Option.some ad → ∀ j u, (flat l)[j]? = Option.some u → w.cell? (ad.add j) = Option.some u := by
  rcases h.2 with ⟨rfl, o, c, rfl⟩ | ⟨b, off, c, rfl, hc⟩
  · exact ⟨o, c, rfl, fun _ => rfl, fun ad _ j u hj => (by cases hj)⟩
  · exact ⟨_, c, rfl, fun e => (by cases e), fun ad e j u hj => (by injection e with e; subst e; exact flat_get hc j u hj)⟩
theorem own0 (w : World) (B : Nat) (t : TypeId) (h : B ≤ w.heap.size) : (w.alloc (.cells #[] t)).ownsRow B t 4 (.slice (some ⟨w.heap.size, 0, none⟩) 0 0) 0 [] :=
  ⟨by simp, .inr ⟨w.heap.size, 0, #[], rfl, h, heap_alloc_new w _, Nat.le_refl _, by unfold maxLen; omega, by simp, by simp⟩⟩
end Lx
theorem infoT : (Tryd.prog.info? 25).map (fun i => (i.zero, i.size, i.bytes)) = some (some (.agg #[.int .i64 0, .string ⟨#[]⟩, .int .i64 0, .int .i64 0]), 4, 40) := by kernel_rfl
set_option maxRecDepth 100000 in
set_option maxHeartbeats 8000000 in
theorem textsC (v : Value) (l : List Tk) (w : World) (hWL : WL w) (hT : TP w) (hv : TkR w v l) (hN : TkN l) :
    Calls Tryd.prog 3 #[v] w fun e w' => e = .returned (.bool true) ∧ Below w.heap.size w w' := by
  obtain ⟨o, c, hvv, hno, hcl⟩ := tkR_news hv
  subst hvv
  by_cases h5 : 5000 < l.length
  · have q0 : decide ((l.length : Int) > 5000) = true := decide_eq_true (by omega)
    have HW := hideR (lWakes w hWL)
    clear hv hN hWL hT h5 hno hcl
    go_enter Tryd.func3, Tryd.ntmps3
    go_wp2_with fail
    refine HW.out.mono ?_
    rintro e u ⟨rfl, hb⟩
    have HB := hideR hb
    clear hb
    go_wp2
    go_ret
    exact ⟨rfl, HB.out⟩
  · have q0 : decide ((l.length : Int) > 5000) = false := decide_eq_false (by omega)
    obtain ⟨i0, hi, hz0, hz1, hz2⟩ := info_parts infoT
    have HV := hideR hv
    have HN := hideR hN
    have HWL := hideR hWL
    have HT := hideR hT
    have H5 := hideR h5
    have HNO := hideR hno
    have HCL := hideR hcl
    clear hv hN hWL hT h5 hno hcl
    go_enter Tryd.func3, Tryd.ntmps3
    go_wp2_with fail
    go_loop [3] (fun x => ∃ k : Nat, x = .int .i64 k ∧ k ≤ l.length ∧ Hid (∀ t ∈ l.take k, t.x.size ≤ 200)) (fun x => match x with | .int _ k => l.length - k.toNat | _ => 0)
    case atStart => exact ⟨0, rfl, Nat.zero_le _, hideR (fun t ht => by simp at ht)⟩
    case round =>
      obtain ⟨k, rfl, hk, HG⟩ := hrel
      by_cases hkl : k < l.length
      · have q1 : decide ((k : Int) < (l.length : Int)) = true := decide_eq_true (by omega)
        have hw1 : wrap64 ((k : Int) + 1) = ((k + 1 : Nat) : Int) := by have := H5.out; unfold wrap64; omega
        obtain ⟨tt, ht⟩ : ∃ t, l[k]? = some t := ⟨_, List.getElem?_eq_getElem hkl⟩
        obtain ⟨g, off, cg, hvg, hcells⟩ := HV.out.some (by omega)
        injection hvg with ho2 _ hcg
        subst ho2
        have y1 := (hcells k tt ht).c1
        have HTS : Hid (l.take (k + 1) = l.take k ++ [tt]) := hideR (by rw [List.take_add_one, ht]; rfl)
        by_cases hz : 200 < tt.x.size
        · have q2 : decide ((tt.x.size : Int) > 200) = true := decide_eq_true (by omega)
          have HW := hideR (lWakes w HWL.out)
          generalize tt.x = X at *
          clear ht hcells hcg hz HTS
          go_wp2_with fail
          refine HW.out.mono ?_
          rintro e u ⟨rfl, hb⟩
          have HB := hideR hb
          clear hb
          go_wp2
          go_ret
          exact ⟨rfl, HB.out⟩
        · have q2 : decide ((tt.x.size : Int) > 200) = false := decide_eq_false (by omega)
          have HG2 : Hid (∀ t ∈ l.take (k + 1), t.x.size ≤ 200) := hideR (by
            rw [HTS.out]
            intro t ht
            rcases List.mem_append.1 ht with ht | ht
            · exact HG.out t ht
            · simp at ht; subst ht; omega)
          generalize tt.x = X at *
          clear ht hcells hcg hz HTS HG
          go_wp2
          go_round
          case rel => exact ⟨k + 1, by first | rfl | (congr 1), hkl, HG2⟩
          case measure => simp; omega
      · have q1 := aK l.length k hkl
        have hkL : k = l.length := by omega
        have hG := HG.out
        rw [hkL, List.take_length] at hG
        have HBd : Hid (TkB l) := hideR fun t ht => ⟨Nat.le_trans (hG t ht) (by decide), (HN.out t ht).1, (HN.out t ht).2⟩
        have HL63 : Hid (0 + l.length ≤ maxLen ∧ (0 + l.length) * 40 ≤ 140737488355328) := hideR (by have := H5.out; unfold maxLen; omega)
        have HA := hideR (new_on w (.cells #[] 25))
        have HO0 := hideR (own0 w w.heap.size 25 (Nat.le_refl _))
        have HWk := fun (u : World) (hb : Below w.heap.size w u) => hideR (lWakes u (HWL.out.on hb))
        have HFL := hideR (flat_len l)
        have HF1 := hideR (flat_one l)
        have HCL2 : Hid (∀ ad, o = some ad → ∀ j u, (flat l)[j]? = some u → (w.alloc (.cells #[] 25)).cell? (ad.add j) = some u) := hideR fun ad ha j u hu => by
          have h0 := HCL.out ad ha j u hu
          have hlt := World.block_lt_of_cell? _ _ h0
          rw [HA.out.cell hlt]; exact h0
        clear HG hG hkL
        go_wp2_with (first | (at_builtin; refine wpList_appS rfl _ _ 22 rfl w.heap.size 25 i0 _ 4 40 Tryd.underlying22 hi hz0 hz1 hz2 rfl (by decide) _ 0 [] rfl HO0.out o l.length c (flat l) rfl HNO.out HFL.out HCL2.out HF1.out HL63.out.1 HL63.out.2 HA.out.size ?c6))
        case c6 =>
          intro v9 w9 hown9 hgr9 _
          have hb9 : Below w.heap.size w w9 := HA.out.grown hgr9 HA.out.size (fun q hq => by have : w.heap.size = q := by injection hq
                                                                                             omega)
          have hO9 : w9.ownsRow w.heap.size 25 4 v9 l.length (flat l) := by simpa using hown9
          have HT1 := hideR (pText v9 l w9 (tkAt_own hO9) HBd.out (HWL.out.on hb9) (HT.out.on hb9))
          have HB9 := hideR hb9
          obtain ⟨o9, c9, hv9⟩ := own_slice hO9
          subst hv9
          have HT2 := fun (u : World) (hb : Below w.heap.size w u) => hideR (rText (.slice o l.length c) l u (HV.out.on hb))
          clear hown9 hgr9 hb9 hO9
          generalize txt l = R at *
          obtain ⟨S, z⟩ := R
          have q5 : (z == z) = true := by simp
          have q6 := bytes_eq (t := S) (s := S) rfl
          go_wp2_with fail
          refine HT1.out.mono ?_
          rintro e u1 ⟨rfl, hb1⟩
          have HB1 := hideR (below_go HB9.out hb1)
          clear hb1 HT1
          go_wp2_with fail
          refine (HT2 _ HB1.out).out.mono ?_
          rintro e u2 ⟨rfl, hb2⟩
          have HB2 := hideR (below_go HB1.out hb2)
          clear hb2 HT2
          go_wp2_with fail
          refine (HWk _ HB2.out).out.mono ?_
          rintro e u3 ⟨rfl, hb3⟩
          have HB3 := hideR (below_go HB2.out hb3)
          clear hb3 HWk
          go_wp2
          go_ret
          exact ⟨rfl, HB3.out⟩
end Go.Proofs.YtagoajoaojakhaaDoor
