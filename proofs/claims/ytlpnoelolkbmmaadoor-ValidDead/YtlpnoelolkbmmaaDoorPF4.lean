/- The program's Form, of any number: the plain function. -/
import Derived.Test.YtlpnoelolkbmmaaDoorPF1
import Derived.Test.YtlpnoelolkbmmaaDoorPF2
import Derived.Test.YtlpnoelolkbmmaaDoorPF3
namespace Go.Proofs.YtlpnoelolkbmmaaDoor
open Go.RowKit Rep
set_option linter.unusedVariables false

theorem pForm {I : World → Prop} (C : ReckC I) (op : Int) (w : World) (hI : I w) : Calls Tryd.prog 48 #[.int .i64 op] w fun e w' => e = .returned (.int .i64 (form op)) ∧ Below w.heap.size w w' := by
  by_cases c0 : op ≤ -1
  · have e : form op = 0 := by
      unfold form
      repeat first | rw [if_neg (by omega)] | rw [if_pos (by omega)]
    rw [e]
    exact pForm0 C op w (by omega) hI
  by_cases c1 : op ≤ 0
  · have e : form op = 1 := by
      unfold form
      repeat first | rw [if_neg (by omega)] | rw [if_pos (by omega)]
    rw [e]
    exact pForm1 C op w (by omega) hI
  by_cases c2 : op ≤ 1
  · have e : form op = 1 := by
      unfold form
      repeat first | rw [if_neg (by omega)] | rw [if_pos (by omega)]
    rw [e]
    exact pForm2 C op w (by omega) hI
  by_cases c3 : op ≤ 2
  · have e : form op = 2 := by
      unfold form
      repeat first | rw [if_neg (by omega)] | rw [if_pos (by omega)]
    rw [e]
    exact pForm3 C op w (by omega) hI
  by_cases c4 : op ≤ 3
  · have e : form op = 2 := by
      unfold form
      repeat first | rw [if_neg (by omega)] | rw [if_pos (by omega)]
    rw [e]
    exact pForm4 C op w (by omega) hI
  by_cases c5 : op ≤ 4
  · have e : form op = 3 := by
      unfold form
      repeat first | rw [if_neg (by omega)] | rw [if_pos (by omega)]
    rw [e]
    exact pForm5 C op w (by omega) hI
  by_cases c6 : op ≤ 11
  · have e : form op = 0 := by
      unfold form
      repeat first | rw [if_neg (by omega)] | rw [if_pos (by omega)]
    rw [e]
    exact pForm6 C op w (by omega) hI
  by_cases c7 : op ≤ 12
  · have e : form op = 4 := by
      unfold form
      repeat first | rw [if_neg (by omega)] | rw [if_pos (by omega)]
    rw [e]
    exact pForm7 C op w (by omega) hI
  by_cases c8 : op ≤ 13
  · have e : form op = 4 := by
      unfold form
      repeat first | rw [if_neg (by omega)] | rw [if_pos (by omega)]
    rw [e]
    exact pForm8 C op w (by omega) hI
  by_cases c9 : op ≤ 14
  · have e : form op = 5 := by
      unfold form
      repeat first | rw [if_neg (by omega)] | rw [if_pos (by omega)]
    rw [e]
    exact pForm9 C op w (by omega) hI
  by_cases c10 : op ≤ 15
  · have e : form op = 1 := by
      unfold form
      repeat first | rw [if_neg (by omega)] | rw [if_pos (by omega)]
    rw [e]
    exact pForm10 C op w (by omega) hI
  by_cases c11 : op ≤ 16
  · have e : form op = 6 := by
      unfold form
      repeat first | rw [if_neg (by omega)] | rw [if_pos (by omega)]
    rw [e]
    exact pForm11 C op w (by omega) hI
  by_cases c12 : op ≤ 17
  · have e : form op = 7 := by
      unfold form
      repeat first | rw [if_neg (by omega)] | rw [if_pos (by omega)]
    rw [e]
    exact pForm12 C op w (by omega) hI
  by_cases c13 : op ≤ 25
  · have e : form op = 0 := by
      unfold form
      repeat first | rw [if_neg (by omega)] | rw [if_pos (by omega)]
    rw [e]
    exact pForm13 C op w (by omega) hI
  by_cases c14 : op ≤ 26
  · have e : form op = 1 := by
      unfold form
      repeat first | rw [if_neg (by omega)] | rw [if_pos (by omega)]
    rw [e]
    exact pForm14 C op w (by omega) hI
  by_cases c15 : op ≤ 27
  · have e : form op = 1 := by
      unfold form
      repeat first | rw [if_neg (by omega)] | rw [if_pos (by omega)]
    rw [e]
    exact pForm15 C op w (by omega) hI
  by_cases c16 : op ≤ 31
  · have e : form op = 0 := by
      unfold form
      repeat first | rw [if_neg (by omega)] | rw [if_pos (by omega)]
    rw [e]
    exact pForm16 C op w (by omega) hI
  by_cases c17 : op ≤ 36
  · have e : form op = 6 := by
      unfold form
      repeat first | rw [if_neg (by omega)] | rw [if_pos (by omega)]
    rw [e]
    exact pForm17 C op w (by omega) hI
  by_cases c18 : op ≤ 39
  · have e : form op = 0 := by
      unfold form
      repeat first | rw [if_neg (by omega)] | rw [if_pos (by omega)]
    rw [e]
    exact pForm18 C op w (by omega) hI
  by_cases c19 : op ≤ 40
  · have e : form op = 8 := by
      unfold form
      repeat first | rw [if_neg (by omega)] | rw [if_pos (by omega)]
    rw [e]
    exact pForm19 C op w (by omega) hI
  by_cases c20 : op ≤ 41
  · have e : form op = 8 := by
      unfold form
      repeat first | rw [if_neg (by omega)] | rw [if_pos (by omega)]
    rw [e]
    exact pForm20 C op w (by omega) hI
  by_cases c21 : op ≤ 42
  · have e : form op = 10 := by
      unfold form
      repeat first | rw [if_neg (by omega)] | rw [if_pos (by omega)]
    rw [e]
    exact pForm21 C op w (by omega) hI
  by_cases c22 : op ≤ 43
  · have e : form op = 10 := by
      unfold form
      repeat first | rw [if_neg (by omega)] | rw [if_pos (by omega)]
    rw [e]
    exact pForm22 C op w (by omega) hI
  by_cases c23 : op ≤ 55
  · have e : form op = 8 := by
      unfold form
      repeat first | rw [if_neg (by omega)] | rw [if_pos (by omega)]
    rw [e]
    exact pForm23 C op w (by omega) hI
  by_cases c24 : op ≤ 56
  · have e : form op = 10 := by
      unfold form
      repeat first | rw [if_neg (by omega)] | rw [if_pos (by omega)]
    rw [e]
    exact pForm24 C op w (by omega) hI
  by_cases c25 : op ≤ 57
  · have e : form op = 10 := by
      unfold form
      repeat first | rw [if_neg (by omega)] | rw [if_pos (by omega)]
    rw [e]
    exact pForm25 C op w (by omega) hI
  by_cases c26 : op ≤ 62
  · have e : form op = 8 := by
      unfold form
      repeat first | rw [if_neg (by omega)] | rw [if_pos (by omega)]
    rw [e]
    exact pForm26 C op w (by omega) hI
  by_cases c27 : op ≤ 63
  · have e : form op = 1 := by
      unfold form
      repeat first | rw [if_neg (by omega)] | rw [if_pos (by omega)]
    rw [e]
    exact pForm27 C op w (by omega) hI
  by_cases c28 : op ≤ 64
  · have e : form op = 1 := by
      unfold form
      repeat first | rw [if_neg (by omega)] | rw [if_pos (by omega)]
    rw [e]
    exact pForm28 C op w (by omega) hI
  by_cases c29 : op ≤ 65
  · have e : form op = 9 := by
      unfold form
      repeat first | rw [if_neg (by omega)] | rw [if_pos (by omega)]
    rw [e]
    exact pForm29 C op w (by omega) hI
  by_cases c30 : op ≤ 66
  · have e : form op = 9 := by
      unfold form
      repeat first | rw [if_neg (by omega)] | rw [if_pos (by omega)]
    rw [e]
    exact pForm30 C op w (by omega) hI
  by_cases c31 : op ≤ 67
  · have e : form op = 10 := by
      unfold form
      repeat first | rw [if_neg (by omega)] | rw [if_pos (by omega)]
    rw [e]
    exact pForm31 C op w (by omega) hI
  by_cases c32 : op ≤ 68
  · have e : form op = 10 := by
      unfold form
      repeat first | rw [if_neg (by omega)] | rw [if_pos (by omega)]
    rw [e]
    exact pForm32 C op w (by omega) hI
  by_cases c33 : op ≤ 90
  · have e : form op = 1 := by
      unfold form
      repeat first | rw [if_neg (by omega)] | rw [if_pos (by omega)]
    rw [e]
    exact pForm33 C op w (by omega) hI
  by_cases c34 : op ≤ 102
  · have e : form op = 10 := by
      unfold form
      repeat first | rw [if_neg (by omega)] | rw [if_pos (by omega)]
    rw [e]
    exact pForm34 C op w (by omega) hI
  by_cases c35 : op ≤ 138
  · have e : form op = 1 := by
      unfold form
      repeat first | rw [if_neg (by omega)] | rw [if_pos (by omega)]
    rw [e]
    exact pForm35 C op w (by omega) hI
  by_cases c36 : op ≤ 166
  · have e : form op = 10 := by
      unfold form
      repeat first | rw [if_neg (by omega)] | rw [if_pos (by omega)]
    rw [e]
    exact pForm36 C op w (by omega) hI
  by_cases c37 : op ≤ 167
  · have e : form op = 1 := by
      unfold form
      repeat first | rw [if_neg (by omega)] | rw [if_pos (by omega)]
    rw [e]
    exact pForm37 C op w (by omega) hI
  by_cases c38 : op ≤ 171
  · have e : form op = 10 := by
      unfold form
      repeat first | rw [if_neg (by omega)] | rw [if_pos (by omega)]
    rw [e]
    exact pForm38 C op w (by omega) hI
  by_cases c39 : op ≤ 173
  · have e : form op = 1 := by
      unfold form
      repeat first | rw [if_neg (by omega)] | rw [if_pos (by omega)]
    rw [e]
    exact pForm39 C op w (by omega) hI
  by_cases c40 : op ≤ 191
  · have e : form op = 10 := by
      unfold form
      repeat first | rw [if_neg (by omega)] | rw [if_pos (by omega)]
    rw [e]
    exact pForm40 C op w (by omega) hI
  have e : form op = 0 := by
    unfold form
    repeat rw [if_neg (by omega)]
  rw [e]
  exact pForm41 C op w (by omega) hI
theorem formC {I : World → Prop} (C : ReckC I) : FormC I := ⟨C.keep, fun op w h => pForm C op w h⟩
end Go.Proofs.YtlpnoelolkbmmaaDoor
