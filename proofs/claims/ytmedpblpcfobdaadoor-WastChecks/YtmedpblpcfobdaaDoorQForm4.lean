/- What the document's own function tells as an instruction's form, of any number: the plain function; nothing is touched. -/
import Derived.Test.YtmedpblpcfobdaaDoorQForm1
import Derived.Test.YtmedpblpcfobdaaDoorQForm2
import Derived.Test.YtmedpblpcfobdaaDoorQForm3
namespace Go.Proofs.YtmedpblpcfobdaaDoor
open Go.RowKit Rep

theorem refForm (op : Int) (w : World) : Calls Tryd.prog 10 #[.int .i64 op] w fun e w' => e = .returned (.int .i64 (form op)) ∧ w' = w := by
  by_cases c0 : op ≤ -1
  · have e : form op = 0 := by
      unfold form
      repeat first | rw [if_neg (by omega)] | rw [if_pos (by omega)]
    rw [e]
    exact refForm0 op w (by omega)
  by_cases c1 : op ≤ 0
  · have e : form op = 1 := by
      unfold form
      repeat first | rw [if_neg (by omega)] | rw [if_pos (by omega)]
    rw [e]
    exact refForm1 op w (by omega)
  by_cases c2 : op ≤ 1
  · have e : form op = 1 := by
      unfold form
      repeat first | rw [if_neg (by omega)] | rw [if_pos (by omega)]
    rw [e]
    exact refForm2 op w (by omega)
  by_cases c3 : op ≤ 2
  · have e : form op = 2 := by
      unfold form
      repeat first | rw [if_neg (by omega)] | rw [if_pos (by omega)]
    rw [e]
    exact refForm3 op w (by omega)
  by_cases c4 : op ≤ 3
  · have e : form op = 2 := by
      unfold form
      repeat first | rw [if_neg (by omega)] | rw [if_pos (by omega)]
    rw [e]
    exact refForm4 op w (by omega)
  by_cases c5 : op ≤ 4
  · have e : form op = 3 := by
      unfold form
      repeat first | rw [if_neg (by omega)] | rw [if_pos (by omega)]
    rw [e]
    exact refForm5 op w (by omega)
  by_cases c6 : op ≤ 11
  · have e : form op = 0 := by
      unfold form
      repeat first | rw [if_neg (by omega)] | rw [if_pos (by omega)]
    rw [e]
    exact refForm6 op w (by omega)
  by_cases c7 : op ≤ 12
  · have e : form op = 4 := by
      unfold form
      repeat first | rw [if_neg (by omega)] | rw [if_pos (by omega)]
    rw [e]
    exact refForm7 op w (by omega)
  by_cases c8 : op ≤ 13
  · have e : form op = 4 := by
      unfold form
      repeat first | rw [if_neg (by omega)] | rw [if_pos (by omega)]
    rw [e]
    exact refForm8 op w (by omega)
  by_cases c9 : op ≤ 14
  · have e : form op = 5 := by
      unfold form
      repeat first | rw [if_neg (by omega)] | rw [if_pos (by omega)]
    rw [e]
    exact refForm9 op w (by omega)
  by_cases c10 : op ≤ 15
  · have e : form op = 1 := by
      unfold form
      repeat first | rw [if_neg (by omega)] | rw [if_pos (by omega)]
    rw [e]
    exact refForm10 op w (by omega)
  by_cases c11 : op ≤ 16
  · have e : form op = 6 := by
      unfold form
      repeat first | rw [if_neg (by omega)] | rw [if_pos (by omega)]
    rw [e]
    exact refForm11 op w (by omega)
  by_cases c12 : op ≤ 17
  · have e : form op = 7 := by
      unfold form
      repeat first | rw [if_neg (by omega)] | rw [if_pos (by omega)]
    rw [e]
    exact refForm12 op w (by omega)
  by_cases c13 : op ≤ 25
  · have e : form op = 0 := by
      unfold form
      repeat first | rw [if_neg (by omega)] | rw [if_pos (by omega)]
    rw [e]
    exact refForm13 op w (by omega)
  by_cases c14 : op ≤ 26
  · have e : form op = 1 := by
      unfold form
      repeat first | rw [if_neg (by omega)] | rw [if_pos (by omega)]
    rw [e]
    exact refForm14 op w (by omega)
  by_cases c15 : op ≤ 27
  · have e : form op = 1 := by
      unfold form
      repeat first | rw [if_neg (by omega)] | rw [if_pos (by omega)]
    rw [e]
    exact refForm15 op w (by omega)
  by_cases c16 : op ≤ 31
  · have e : form op = 0 := by
      unfold form
      repeat first | rw [if_neg (by omega)] | rw [if_pos (by omega)]
    rw [e]
    exact refForm16 op w (by omega)
  by_cases c17 : op ≤ 36
  · have e : form op = 6 := by
      unfold form
      repeat first | rw [if_neg (by omega)] | rw [if_pos (by omega)]
    rw [e]
    exact refForm17 op w (by omega)
  by_cases c18 : op ≤ 39
  · have e : form op = 0 := by
      unfold form
      repeat first | rw [if_neg (by omega)] | rw [if_pos (by omega)]
    rw [e]
    exact refForm18 op w (by omega)
  by_cases c19 : op ≤ 40
  · have e : form op = 8 := by
      unfold form
      repeat first | rw [if_neg (by omega)] | rw [if_pos (by omega)]
    rw [e]
    exact refForm19 op w (by omega)
  by_cases c20 : op ≤ 41
  · have e : form op = 8 := by
      unfold form
      repeat first | rw [if_neg (by omega)] | rw [if_pos (by omega)]
    rw [e]
    exact refForm20 op w (by omega)
  by_cases c21 : op ≤ 42
  · have e : form op = 10 := by
      unfold form
      repeat first | rw [if_neg (by omega)] | rw [if_pos (by omega)]
    rw [e]
    exact refForm21 op w (by omega)
  by_cases c22 : op ≤ 43
  · have e : form op = 10 := by
      unfold form
      repeat first | rw [if_neg (by omega)] | rw [if_pos (by omega)]
    rw [e]
    exact refForm22 op w (by omega)
  by_cases c23 : op ≤ 55
  · have e : form op = 8 := by
      unfold form
      repeat first | rw [if_neg (by omega)] | rw [if_pos (by omega)]
    rw [e]
    exact refForm23 op w (by omega)
  by_cases c24 : op ≤ 56
  · have e : form op = 10 := by
      unfold form
      repeat first | rw [if_neg (by omega)] | rw [if_pos (by omega)]
    rw [e]
    exact refForm24 op w (by omega)
  by_cases c25 : op ≤ 57
  · have e : form op = 10 := by
      unfold form
      repeat first | rw [if_neg (by omega)] | rw [if_pos (by omega)]
    rw [e]
    exact refForm25 op w (by omega)
  by_cases c26 : op ≤ 62
  · have e : form op = 8 := by
      unfold form
      repeat first | rw [if_neg (by omega)] | rw [if_pos (by omega)]
    rw [e]
    exact refForm26 op w (by omega)
  by_cases c27 : op ≤ 63
  · have e : form op = 1 := by
      unfold form
      repeat first | rw [if_neg (by omega)] | rw [if_pos (by omega)]
    rw [e]
    exact refForm27 op w (by omega)
  by_cases c28 : op ≤ 64
  · have e : form op = 1 := by
      unfold form
      repeat first | rw [if_neg (by omega)] | rw [if_pos (by omega)]
    rw [e]
    exact refForm28 op w (by omega)
  by_cases c29 : op ≤ 65
  · have e : form op = 9 := by
      unfold form
      repeat first | rw [if_neg (by omega)] | rw [if_pos (by omega)]
    rw [e]
    exact refForm29 op w (by omega)
  by_cases c30 : op ≤ 66
  · have e : form op = 9 := by
      unfold form
      repeat first | rw [if_neg (by omega)] | rw [if_pos (by omega)]
    rw [e]
    exact refForm30 op w (by omega)
  by_cases c31 : op ≤ 67
  · have e : form op = 10 := by
      unfold form
      repeat first | rw [if_neg (by omega)] | rw [if_pos (by omega)]
    rw [e]
    exact refForm31 op w (by omega)
  by_cases c32 : op ≤ 68
  · have e : form op = 10 := by
      unfold form
      repeat first | rw [if_neg (by omega)] | rw [if_pos (by omega)]
    rw [e]
    exact refForm32 op w (by omega)
  by_cases c33 : op ≤ 90
  · have e : form op = 1 := by
      unfold form
      repeat first | rw [if_neg (by omega)] | rw [if_pos (by omega)]
    rw [e]
    exact refForm33 op w (by omega)
  by_cases c34 : op ≤ 102
  · have e : form op = 10 := by
      unfold form
      repeat first | rw [if_neg (by omega)] | rw [if_pos (by omega)]
    rw [e]
    exact refForm34 op w (by omega)
  by_cases c35 : op ≤ 138
  · have e : form op = 1 := by
      unfold form
      repeat first | rw [if_neg (by omega)] | rw [if_pos (by omega)]
    rw [e]
    exact refForm35 op w (by omega)
  by_cases c36 : op ≤ 166
  · have e : form op = 10 := by
      unfold form
      repeat first | rw [if_neg (by omega)] | rw [if_pos (by omega)]
    rw [e]
    exact refForm36 op w (by omega)
  by_cases c37 : op ≤ 167
  · have e : form op = 1 := by
      unfold form
      repeat first | rw [if_neg (by omega)] | rw [if_pos (by omega)]
    rw [e]
    exact refForm37 op w (by omega)
  by_cases c38 : op ≤ 171
  · have e : form op = 10 := by
      unfold form
      repeat first | rw [if_neg (by omega)] | rw [if_pos (by omega)]
    rw [e]
    exact refForm38 op w (by omega)
  by_cases c39 : op ≤ 173
  · have e : form op = 1 := by
      unfold form
      repeat first | rw [if_neg (by omega)] | rw [if_pos (by omega)]
    rw [e]
    exact refForm39 op w (by omega)
  by_cases c40 : op ≤ 191
  · have e : form op = 10 := by
      unfold form
      repeat first | rw [if_neg (by omega)] | rw [if_pos (by omega)]
    rw [e]
    exact refForm40 op w (by omega)
  have e : form op = 0 := by
    unfold form
    repeat rw [if_neg (by omega)]
  rw [e]
  exact refForm41 op w (by omega)
end Go.Proofs.YtmedpblpcfobdaaDoor
