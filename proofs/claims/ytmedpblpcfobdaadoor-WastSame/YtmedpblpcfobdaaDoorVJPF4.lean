/- VJPF4: several texts in one. -/
import Derived.Test.YtmedpblpcfobdaaDoorVPF1
import Derived.Test.YtmedpblpcfobdaaDoorVPF2
import Derived.Test.YtmedpblpcfobdaaDoorVPF3
import Derived.Test.YtmedpblpcfobdaaDoorVW11
import Derived.Test.YtmedpblpcfobdaaDoorVJW13
import Derived.Test.YtmedpblpcfobdaaDoorVW15
/- The program's Form, of any number: the plain function. -/
namespace Go.Proofs.YtmedpblpcfobdaaDoor
open Go.RowKit Rep
set_option linter.unusedVariables false

theorem pForm {I : World → Prop} (C : ReckC I) (op : Int) (w : World) (hI : I w) : Calls Tryd.prog 9 #[.int .i64 op] w fun e w' => e = .returned (.int .i64 (form op)) ∧ Below w.heap.size w w' := by
  by_cases c0 : op ≤ -1
  · have e : form op = 0 := by
      unfold form
      repeat first | rw [if_neg (by omega)] | rw [if_pos (by omega)]
    rw [e]
    exact pForm0 C op w (by omega) hI
  by_cases c1 : op ≤ 0
  · have e : form op = 1 := by
      unfold form
      repeat first | rw [if_neg (by omega)] | rw [if_pos (by omega)]
    rw [e]
    exact pForm1 C op w (by omega) hI
  by_cases c2 : op ≤ 1
  · have e : form op = 1 := by
      unfold form
      repeat first | rw [if_neg (by omega)] | rw [if_pos (by omega)]
    rw [e]
    exact pForm2 C op w (by omega) hI
  by_cases c3 : op ≤ 2
  · have e : form op = 2 := by
      unfold form
      repeat first | rw [if_neg (by omega)] | rw [if_pos (by omega)]
    rw [e]
    exact pForm3 C op w (by omega) hI
  by_cases c4 : op ≤ 3
  · have e : form op = 2 := by
      unfold form
      repeat first | rw [if_neg (by omega)] | rw [if_pos (by omega)]
    rw [e]
    exact pForm4 C op w (by omega) hI
  by_cases c5 : op ≤ 4
  · have e : form op = 3 := by
      unfold form
      repeat first | rw [if_neg (by omega)] | rw [if_pos (by omega)]
    rw [e]
    exact pForm5 C op w (by omega) hI
  by_cases c6 : op ≤ 11
  · have e : form op = 0 := by
      unfold form
      repeat first | rw [if_neg (by omega)] | rw [if_pos (by omega)]
    rw [e]
    exact pForm6 C op w (by omega) hI
  by_cases c7 : op ≤ 12
  · have e : form op = 4 := by
      unfold form
      repeat first | rw [if_neg (by omega)] | rw [if_pos (by omega)]
    rw [e]
    exact pForm7 C op w (by omega) hI
  by_cases c8 : op ≤ 13
  · have e : form op = 4 := by
      unfold form
      repeat first | rw [if_neg (by omega)] | rw [if_pos (by omega)]
    rw [e]
    exact pForm8 C op w (by omega) hI
  by_cases c9 : op ≤ 14
  · have e : form op = 5 := by
      unfold form
      repeat first | rw [if_neg (by omega)] | rw [if_pos (by omega)]
    rw [e]
    exact pForm9 C op w (by omega) hI
  by_cases c10 : op ≤ 15
  · have e : form op = 1 := by
      unfold form
      repeat first | rw [if_neg (by omega)] | rw [if_pos (by omega)]
    rw [e]
    exact pForm10 C op w (by omega) hI
  by_cases c11 : op ≤ 16
  · have e : form op = 6 := by
      unfold form
      repeat first | rw [if_neg (by omega)] | rw [if_pos (by omega)]
    rw [e]
    exact pForm11 C op w (by omega) hI
  by_cases c12 : op ≤ 17
  · have e : form op = 7 := by
      unfold form
      repeat first | rw [if_neg (by omega)] | rw [if_pos (by omega)]
    rw [e]
    exact pForm12 C op w (by omega) hI
  by_cases c13 : op ≤ 25
  · have e : form op = 0 := by
      unfold form
      repeat first | rw [if_neg (by omega)] | rw [if_pos (by omega)]
    rw [e]
    exact pForm13 C op w (by omega) hI
  by_cases c14 : op ≤ 26
  · have e : form op = 1 := by
      unfold form
      repeat first | rw [if_neg (by omega)] | rw [if_pos (by omega)]
    rw [e]
    exact pForm14 C op w (by omega) hI
  by_cases c15 : op ≤ 27
  · have e : form op = 1 := by
      unfold form
      repeat first | rw [if_neg (by omega)] | rw [if_pos (by omega)]
    rw [e]
    exact pForm15 C op w (by omega) hI
  by_cases c16 : op ≤ 31
  · have e : form op = 0 := by
      unfold form
      repeat first | rw [if_neg (by omega)] | rw [if_pos (by omega)]
    rw [e]
    exact pForm16 C op w (by omega) hI
  by_cases c17 : op ≤ 36
  · have e : form op = 6 := by
      unfold form
      repeat first | rw [if_neg (by omega)] | rw [if_pos (by omega)]
    rw [e]
    exact pForm17 C op w (by omega) hI
  by_cases c18 : op ≤ 39
  · have e : form op = 0 := by
      unfold form
      repeat first | rw [if_neg (by omega)] | rw [if_pos (by omega)]
    rw [e]
    exact pForm18 C op w (by omega) hI
  by_cases c19 : op ≤ 40
  · have e : form op = 8 := by
      unfold form
      repeat first | rw [if_neg (by omega)] | rw [if_pos (by omega)]
    rw [e]
    exact pForm19 C op w (by omega) hI
  by_cases c20 : op ≤ 41
  · have e : form op = 8 := by
      unfold form
      repeat first | rw [if_neg (by omega)] | rw [if_pos (by omega)]
    rw [e]
    exact pForm20 C op w (by omega) hI
  by_cases c21 : op ≤ 42
  · have e : form op = 10 := by
      unfold form
      repeat first | rw [if_neg (by omega)] | rw [if_pos (by omega)]
    rw [e]
    exact pForm21 C op w (by omega) hI
  by_cases c22 : op ≤ 43
  · have e : form op = 10 := by
      unfold form
      repeat first | rw [if_neg (by omega)] | rw [if_pos (by omega)]
    rw [e]
    exact pForm22 C op w (by omega) hI
  by_cases c23 : op ≤ 55
  · have e : form op = 8 := by
      unfold form
      repeat first | rw [if_neg (by omega)] | rw [if_pos (by omega)]
    rw [e]
    exact pForm23 C op w (by omega) hI
  by_cases c24 : op ≤ 56
  · have e : form op = 10 := by
      unfold form
      repeat first | rw [if_neg (by omega)] | rw [if_pos (by omega)]
    rw [e]
    exact pForm24 C op w (by omega) hI
  by_cases c25 : op ≤ 57
  · have e : form op = 10 := by
      unfold form
      repeat first | rw [if_neg (by omega)] | rw [if_pos (by omega)]
    rw [e]
    exact pForm25 C op w (by omega) hI
  by_cases c26 : op ≤ 62
  · have e : form op = 8 := by
      unfold form
      repeat first | rw [if_neg (by omega)] | rw [if_pos (by omega)]
    rw [e]
    exact pForm26 C op w (by omega) hI
  by_cases c27 : op ≤ 63
  · have e : form op = 1 := by
      unfold form
      repeat first | rw [if_neg (by omega)] | rw [if_pos (by omega)]
    rw [e]
    exact pForm27 C op w (by omega) hI
  by_cases c28 : op ≤ 64
  · have e : form op = 1 := by
      unfold form
      repeat first | rw [if_neg (by omega)] | rw [if_pos (by omega)]
    rw [e]
    exact pForm28 C op w (by omega) hI
  by_cases c29 : op ≤ 65
  · have e : form op = 9 := by
      unfold form
      repeat first | rw [if_neg (by omega)] | rw [if_pos (by omega)]
    rw [e]
    exact pForm29 C op w (by omega) hI
  by_cases c30 : op ≤ 66
  · have e : form op = 9 := by
      unfold form
      repeat first | rw [if_neg (by omega)] | rw [if_pos (by omega)]
    rw [e]
    exact pForm30 C op w (by omega) hI
  by_cases c31 : op ≤ 67
  · have e : form op = 10 := by
      unfold form
      repeat first | rw [if_neg (by omega)] | rw [if_pos (by omega)]
    rw [e]
    exact pForm31 C op w (by omega) hI
  by_cases c32 : op ≤ 68
  · have e : form op = 10 := by
      unfold form
      repeat first | rw [if_neg (by omega)] | rw [if_pos (by omega)]
    rw [e]
    exact pForm32 C op w (by omega) hI
  by_cases c33 : op ≤ 90
  · have e : form op = 1 := by
      unfold form
      repeat first | rw [if_neg (by omega)] | rw [if_pos (by omega)]
    rw [e]
    exact pForm33 C op w (by omega) hI
  by_cases c34 : op ≤ 102
  · have e : form op = 10 := by
      unfold form
      repeat first | rw [if_neg (by omega)] | rw [if_pos (by omega)]
    rw [e]
    exact pForm34 C op w (by omega) hI
  by_cases c35 : op ≤ 138
  · have e : form op = 1 := by
      unfold form
      repeat first | rw [if_neg (by omega)] | rw [if_pos (by omega)]
    rw [e]
    exact pForm35 C op w (by omega) hI
  by_cases c36 : op ≤ 166
  · have e : form op = 10 := by
      unfold form
      repeat first | rw [if_neg (by omega)] | rw [if_pos (by omega)]
    rw [e]
    exact pForm36 C op w (by omega) hI
  by_cases c37 : op ≤ 167
  · have e : form op = 1 := by
      unfold form
      repeat first | rw [if_neg (by omega)] | rw [if_pos (by omega)]
    rw [e]
    exact pForm37 C op w (by omega) hI
  by_cases c38 : op ≤ 171
  · have e : form op = 10 := by
      unfold form
      repeat first | rw [if_neg (by omega)] | rw [if_pos (by omega)]
    rw [e]
    exact pForm38 C op w (by omega) hI
  by_cases c39 : op ≤ 173
  · have e : form op = 1 := by
      unfold form
      repeat first | rw [if_neg (by omega)] | rw [if_pos (by omega)]
    rw [e]
    exact pForm39 C op w (by omega) hI
  by_cases c40 : op ≤ 191
  · have e : form op = 10 := by
      unfold form
      repeat first | rw [if_neg (by omega)] | rw [if_pos (by omega)]
    rw [e]
    exact pForm40 C op w (by omega) hI
  have e : form op = 0 := by
    unfold form
    repeat rw [if_neg (by omega)]
  rw [e]
  exact pForm41 C op w (by omega) hI
theorem formC {I : World → Prop} (C : ReckC I) : FormC I := ⟨C.keep, fun op w h => pForm C op w h⟩
end Go.Proofs.YtmedpblpcfobdaaDoor

/- The program's Check, whole, of a module as it lies in memory: over what Form and Name answer. -/
namespace Go.Proofs.YtmedpblpcfobdaaDoor
open Go.RowKit Rep
set_option linter.unusedVariables false
namespace Rep
/-- what is asked of a module's place in memory beside what it reads as -/
structure ModOk {d : Nat} (v3 v4 : Value) (m : Mod d) : Prop where
  deep : d ≤ 4611686018427387904
  datas : ∀ x ∈ m.datas, x.bytes.size ≤ 9223372036854775807
  texts : Texts m
  tables : ∀ n c, v3 = .slice none n c → c = 0
  mems : ∀ n c, v4 = .slice none n c → c = 0
theorem fewM_lens {d : Nat} {m : Mod d} (h : fewM m = true) : m.tables.length ≤ 4096 ∧ m.mems.length ≤ 4096 := by
  unfold fewM at h
  rw [Bool.and_eq_true] at h
  have h1 := List.all_eq_true.1 h.1
  have a := h1 (len m.tables) (by simp)
  have b := h1 (len m.mems) (by simp)
  have a := of_decide_eq_true (p := ((m.tables.length : Int) ≤ 4096)) a
  have b := of_decide_eq_true (p := ((m.mems.length : Int) ≤ 4096)) b
  omega
end Rep
theorem pCheckC {I : World → Prop} (C : WastC I) (d : Nat) (v0 v1 v2 v3 v4 v5 v6 v7 v8 v9 : Value) (m : Mod d) (w : World) (hI : I w) (hM : ModAt w d v0 v1 v2 v3 v4 v5 v6 v7 v8 v9 m) (hO : ModOk v3 v4 m) :
    Calls Tryd.prog 15 #[.agg #[v0, v1, v2, v3, v4, v5, v6, v7, v8, v9]] w fun e w' => e = .returned (.int .i64 (chk m)) ∧ Below w.heap.size w w' := by
  refine pCheck C.toFormC d hO.deep v0 v1 v2 v3 v4 v5 v6 v7 v8 v9 m w hI hM hO.datas fun hf w' hb => ?_
  have hl := fewM_lens hf
  have hM' := hM.on hb
  obtain ⟨o3, c3, e3⟩ := Row.len hM'.tables
  obtain ⟨o4, c4, e4⟩ := Row.len hM'.mems
  refine pneedShapes C d v0 v1 v2 v3 v4 v5 v6 v7 v8 v9 m w' (C.keep hb hI) hM' hO.texts fun u b hu k0 k1 => ?_
  have hM2 := hM'.on hu
  have r3 := hM2.tables
  have r4 := hM2.mems
  rw [e3] at r3 k0
  rw [e4] at r4 k1
  refine pConcat m.tables m.mems o3 o4 c3 c4 u b r3 r4 (fun h => ?_) (fun h => ?_) k0 k1 hl.1 hl.2
  · subst h; exact hO.tables _ _ e3
  · subst h; exact hO.mems _ _ e4
theorem wastC {I : World → Prop} (C : ReckC I) (hU : ∀ w, I w → UtfI w) : WastC I :=
  { toFormC := formC C, name := fun s w h hs => pName s w hs (hU w h) }
theorem utfI_on {w w' : World} (hb : Below w.heap.size w w') (h : UtfI w) : UtfI w' := Utf8Tabs_below h hb
end Go.Proofs.YtmedpblpcfobdaaDoor
