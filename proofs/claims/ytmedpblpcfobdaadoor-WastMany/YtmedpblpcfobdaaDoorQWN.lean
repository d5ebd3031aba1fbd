/- Blocks in one another: as deep as they may stand, and no deeper. -/
import Derived.Test.YtmedpblpcfobdaaDoorQWK
namespace Go.Proofs.YtmedpblpcfobdaaDoor
open Go.RowKit Rep
set_option linter.unusedVariables false
namespace Rep
def noI : (d : Nat) → IL d
  | 0 => ()
  | d + 1 => ([] : List (Ins (IL d)))
theorem at_no (w : World) (cap : Nat) : ∀ d, At w d (.slice none 0 cap) (noI d)
  | 0 => ⟨none, cap, rfl⟩
  | _ + 1 => ⟨by simp [noI], .inl ⟨rfl, none, cap, rfl⟩⟩
theorem size_no : ∀ d, size d (noI d) = 0
  | 0 => rfl
  | _ + 1 => rfl
theorem goI_no {σ : Type} (step : σ → Sn → Nat → Option σ) (k : Nat) (s : σ) : ∀ d, goI step d (noI d) k s = some s
  | 0 => rfl
  | _ + 1 => rfl
def nest : (i : Nat) → IL (i + 1)
  | 0 => ([nop] : List (Ins (IL 0)))
  | i + 1 => ([⟨2, 0, 0, 0, [], nest i, noI (i + 1)⟩] : List (Ins (IL (i + 1))))
theorem size_nest (i : Nat) : size (i + 1) (nest i) = 1 := by cases i <;> rfl
def mFun {d : Nat} (l : IL d) : Mod d := ⟨[⟨[], []⟩], [], [⟨0, [], l⟩], [], [], [], [], [], [], []⟩
theorem goI_one {σ : Type} (step : σ → Sn → Nat → Option σ) (d : Nat) (x : Ins (IL d)) (k : Nat) (s : σ) :
    goI step (d + 1) ([x] : List (Ins (IL d))) k s = (step s (sn x) k).bind fun s1 => (goI step d x.body (k + 1) s1).bind fun s2 => goI step d x.els (k + 1) s2 := by
  show (step s (sn x) k).bind (fun s1 => (goI step d x.body (k + 1) s1).bind fun s2 => (goI step d x.els (k + 1) s2).bind fun s3 => some s3) = _
  simp
theorem nest_cnt : ∀ (i k c : Nat), c + i + 1 ≤ 65536 → goI stepCount (i + 1) (nest i) k c = some (c + i + 1)
  | 0, k, c, h => by
    show goI stepCount 1 ([nop] : List (Ins (IL 0))) k c = _
    rw [goI_one]; simp [stepCount, goI, show c + 1 ≤ 65536 by omega]
  | i + 1, k, c, h => by
    show goI stepCount (i + 2) ([⟨2, 0, 0, 0, [], nest i, noI (i + 1)⟩] : List (Ins (IL (i + 1)))) k c = _
    rw [goI_one]
    simp only [stepCount, show c + 1 ≤ 65536 by omega, if_true, Option.bind_some]
    rw [nest_cnt i (k + 1) (c + 1) (by omega), Option.bind_some, goI_no]
    rw [show c + 1 + i + 1 = c + (i + 1) + 1 by omega]
theorem nest_lab : ∀ (i k : Nat), goI stepLabels (i + 1) (nest i) k () = some ()
  | 0, k => rfl
  | i + 1, k => by
    show goI stepLabels (i + 2) ([⟨2, 0, 0, 0, [], nest i, noI (i + 1)⟩] : List (Ins (IL (i + 1)))) k () = _
    rw [goI_one]
    show (goI stepLabels (i + 1) (nest i) (k + 1) ()).bind (fun s2 => goI stepLabels (i + 1) (noI (i + 1)) (k + 1) s2) = _
    rw [nest_lab i (k + 1), Option.bind_some, goI_no]
theorem nest_dep : ∀ (i k : Nat), goI stepDepth (i + 1) (nest i) k () = if k + i ≤ 64 then some () else none
  | 0, k => by
    show goI stepDepth 1 ([nop] : List (Ins (IL 0))) k () = _
    rw [goI_one]; simp only [stepDepth, goI, Nat.add_zero]; split <;> rfl
  | i + 1, k => by
    show goI stepDepth (i + 2) ([⟨2, 0, 0, 0, [], nest i, noI (i + 1)⟩] : List (Ins (IL (i + 1)))) k () = _
    rw [goI_one]
    simp only [stepDepth]
    by_cases h : k ≤ 64
    · rw [if_pos h, Option.bind_some, nest_dep i (k + 1)]
      by_cases h2 : k + 1 + i ≤ 64
      · rw [if_pos h2, if_pos (by omega), Option.bind_some, goI_no]
      · rw [if_neg h2, if_neg (by omega)]; rfl
    · rw [if_neg h, if_neg (by omega)]; rfl
theorem ok_nop : okS (sn nop) = true := by decide +kernel
theorem ok_blk {d : Nat} (a b : IL d) (hb : size d b = 0) : okS (sn (⟨2, 0, 0, 0, [], a, b⟩ : Ins (IL d))) = true := by
  show okF (form 2) 2 0 0 0 [] (size d a) (size d b) = true
  rw [hb, show form 2 = 2 by decide]
  rfl
theorem nest_frm : ∀ (i k : Nat), goI stepForm (i + 1) (nest i) k () = some ()
  | 0, k => by
    show goI stepForm 1 ([nop] : List (Ins (IL 0))) k () = _
    rw [goI_one]; simp only [stepForm, ok_nop, goI]; rfl
  | i + 1, k => by
    show goI stepForm (i + 2) ([⟨2, 0, 0, 0, [], nest i, noI (i + 1)⟩] : List (Ins (IL (i + 1)))) k () = _
    rw [goI_one]
    simp only [stepForm, ok_blk _ _ (size_no _), if_true, Option.bind_some]
    rw [nest_frm i (k + 1), Option.bind_some, goI_no]
theorem goF_one {σ : Type} (step : σ → Sn → Nat → Option σ) (d : Nat) (l : IL d) (s : σ) : goF step d (mFun l).funcs s = goI step d l 0 s := by
  show (goI step d l 0 s).bind (fun s1 => some s1) = _
  simp
theorem few_fun {d : Nat} (l : IL d) : fewM (mFun l) = true := by
  unfold fewM
  simp [mFun, len, room, few, few1, fewT, fewL]
theorem sh_fun {d : Nat} (l : IL d) : shM (mFun l) = true := rfl
theorem chk_nest (i : Nat) (h : i ≤ 90) : chk (mFun (nest i)) = if i ≤ 64 then 0 else 4 := by
  unfold chk
  rw [goF_one, goF_one, goF_one, goF_one, nest_cnt i 0 0 (by omega), nest_lab, nest_dep, nest_frm]
  rw [few_fun, sh_fun]
  simp only [if_true, Nat.zero_add]
  by_cases h2 : i ≤ 64
  · simp [h2]
  · simp [h2]
theorem cnt_nest (i : Nat) (h : i ≤ 90) : cntM (i + 1) (mFun (nest i)).funcs = i + 1 := by
  unfold cntM
  rw [goF_one, nest_cnt i 0 0 (by omega)]
  simp
theorem modFun (w : World) (d : Nat) (l : IL d) (v : Value) (h : At w d v l) (t0 t1 : TypeId) : ModAt ((w.alloc (.cells #[.slice none 0 0, .slice none 0 0] t0)).alloc (.cells #[.int .i64 0, .slice none 0 0, v] t1))
    d (.slice (some ⟨w.heap.size, 0, none⟩) 1 1) (.slice none 0 0) (.slice (some ⟨w.heap.size + 1, 0, none⟩) 1 1) (.slice none 0 0) (.slice none 0 0) (.slice none 0 0) (.slice none 0 0) (.slice none 0 0) (.slice none 0 0) (.slice none 0 0) (mFun l) := by
  have h1 : FTAt (w.alloc (.cells #[.slice none 0 0, .slice none 0 0] t0)) w.heap.size 0 ⟨[], []⟩ := ⟨⟨_, cell_new _ _ _ _ _ _ rfl rfl, row_nil _ _⟩, ⟨_, cell_new _ _ _ _ _ _ rfl rfl, row_nil _ _⟩⟩
  have h := At.on (new_on w (.cells #[.slice none 0 0, .slice none 0 0] t0)) d v l h
  generalize hw1 : w.alloc (.cells #[.slice none 0 0, .slice none 0 0] t0) = w1 at *
  have s1 : w1.heap.size = w.heap.size + 1 := by rw [← hw1]; exact World.size_alloc _ _
  have b4 := new_on w1 (.cells #[.int .i64 0, .slice none 0 0, v] t1)
  have h1 := h1.on b4
  have h := At.on b4 d v l h
  have h4 : FunAt (w1.alloc (.cells #[.int .i64 0, .slice none 0 0, v] t1)) d (w.heap.size + 1) 0 ⟨0, [], l⟩ :=
    ⟨cell_new _ _ _ _ _ _ s1.symm rfl, ⟨_, cell_new _ _ _ _ _ _ s1.symm rfl, row_nil _ _⟩, ⟨_, cell_new _ _ _ _ _ _ s1.symm rfl, h⟩⟩
  exact ⟨row_one _ _ _ _ _ h1, row_nil _ _, row_one _ _ _ _ _ h4, row_nil _ _, row_nil _ _, row_nil _ _, row_nil _ _, row_nil _ _, row_nil _ _, row_nil _ _⟩
theorem okFun {d : Nat} (l : IL d) (h : d ≤ 4611686018427387904) : ModOk (.slice none 0 0) (.slice none 0 0) (mFun l) := ⟨h, by simp [mFun], ⟨by simp [mFun], by simp [mFun]⟩, by simp, by simp⟩
theorem nest_new (w : World) (t : TypeId) (i : Nat) (v : Value) (h : At w (i + 1) v (nest i)) (b : Nat) (hb : b = w.heap.size) :
    At (w.alloc (.cells #[.int .i64 2, .int .i64 0, .int .i64 0, .int .i64 0, .slice none 0 0, v, .slice none 0 0] t)) (i + 2) (.slice (some ⟨b, 0, none⟩) 1 1) (nest (i + 1)) := by
  have h := At.on (new_on w (.cells #[.int .i64 2, .int .i64 0, .int .i64 0, .int .i64 0, .slice none 0 0, v, .slice none 0 0] t)) _ _ _ h
  exact row_one _ _ _ _ _ (insAt_new w _ t b 2 0 0 0 (.slice none 0 0) v (.slice none 0 0) [] (nest i) (noI (i + 1)) hb (row_nil _ _) h (at_no _ _ _))
theorem nest_start (w : World) (t : TypeId) (b : Nat) (hb : b = w.heap.size) : At (w.alloc (.cells #[.int .i64 1, .int .i64 0, .int .i64 0, .int .i64 0, .slice none 0 0, .slice none 0 0, .slice none 0 0] t)) 1 (.slice (some ⟨b, 0, none⟩) 1 1) (nest 0) :=
  row_one _ _ _ _ _ (insAt_new w _ t b 1 0 0 0 (.slice none 0 0) (.slice none 0 0) (.slice none 0 0) [] () () hb (row_nil _ _) ⟨none, 0, rfl⟩ ⟨none, 0, rfl⟩)
end Rep

set_option maxRecDepth 100000 in
set_option maxHeartbeats 2000000 in
theorem nestC {I : World → Prop} (C : WastC I) (z : Int) (w : World) (hI : I w) :
    Calls Tryd.prog 6 #[.int .i64 z] w fun e w' => e = .returned (.bool true) ∧ Below w.heap.size w w' := by
  have HI := hideM hI
  clear hI
  by_cases h0 : z < 0
  · go_enter Tryd.func6, Tryd.ntmps6
    go_wp2_with fail
    refine (pWakes C _ HI.out).mono ?_
    rintro e u5 ⟨rfl, hb⟩
    have HB := hideM hb
    clear hb
    go_wp2
    go_ret
    exact ⟨rfl, HB.out⟩
  by_cases h1 : z > 90
  · go_enter Tryd.func6, Tryd.ntmps6
    go_wp2_with fail
    refine (pWakes C _ HI.out).mono ?_
    rintro e u5 ⟨rfl, hb⟩
    have HB := hideM hb
    clear hb
    go_wp2
    go_ret
    exact ⟨rfl, HB.out⟩
  obtain ⟨n, rfl⟩ : ∃ n : Nat, z = n := ⟨z.toNat, by omega⟩
  have hn : n ≤ 90 := by omega
  clear h0 h1
  go_enter Tryd.func6, Tryd.ntmps6
  go_wp2_with fail
  have HA0 := hideM (nest_start w 45 w.heap.size rfl)
  have HB0 := hideM (new_on w (.cells #[.int .i64 1, .int .i64 0, .int .i64 0, .int .i64 0, .slice none 0 0, .slice none 0 0, .slice none 0 0] 45))
  go_loopw [3, 4] (fun l i wr => ∃ j b : Nat, j ≤ n ∧ i = .int .i64 j ∧ l = .slice (some ⟨b, 0, none⟩) 1 1 ∧ Hid (At wr (j + 1) (.slice (some ⟨b, 0, none⟩) 1 1) (nest j)) ∧ Hid (Below w.heap.size w wr)) (fun _ i _ => n - (intOf i).toNat)
  case atStart => exact ⟨0, _, by omega, rfl, rfl, HA0, HB0⟩
  case round =>
    obtain ⟨j, b, hj, rfl, rfl, HA, HB⟩ := hrel
    by_cases hgo : j < n
    · have HA2 := hideM (nest_new wr 45 j _ HA.out wr.heap.size rfl)
      have HB2 := hideM (below_go HB.out (new_on wr (.cells #[.int .i64 2, .int .i64 0, .int .i64 0, .int .i64 0, .slice none 0 0, .slice (some ⟨b, 0, none⟩) 1 1, .slice none 0 0] 45)))
      go_wp2
      go_roundw
      case rel => exact ⟨j + 1, _, by omega, by go_num, rfl, HA2, HB2⟩
      case measure => simp [intOf]; omega
    · obtain rfl : j = n := by omega
      have hj' : Hid (j ≤ 90) := hideM hn
      have HM := hideM (modFun wr (j + 1) (nest j) _ HA.out 47 49)
      have HK : Hid (chk (mFun (nest j)) = if j ≤ 64 then 0 else 4) := hideM (chk_nest j hn)
      have HC : Hid (cntM (j + 1) (mFun (nest j)).funcs = j + 1) := hideM (cnt_nest j hn)
      by_cases h64 : j ≤ 64
      · have HV : Hid (chk (mFun (nest j)) = 0) := hideM (by rw [HK.out]; simp [h64])
        go_upto_region 9 with fail
        obtain ⟨w2, hw2⟩ : ∃ w2, w2 = (wr.alloc (.cells #[.slice none 0 0, .slice none 0 0] 47)).alloc (.cells #[.int .i64 0, .slice none 0 0, .slice (some ⟨b, 0, none⟩) 1 1] 49) := ⟨_, rfl⟩
        rw [← hw2] at HM ⊢
        have HB2 : Hid (Below wr.heap.size wr w2) := hideM (by rw [hw2]; exact below_go (new_on _ _) (new_on _ _))
        have HS2 : Hid (w2.heap.size = wr.heap.size + 1 + 1) := hideM (by rw [hw2]; simp)
        clear hw2
        have HT := hideM (Ten.new w2 36 (wr.heap.size + 1 + 1) (.slice (some ⟨wr.heap.size, 0, none⟩) 1 1) (.slice none 0 0) (.slice (some ⟨wr.heap.size + 1, 0, none⟩) 1 1) (.slice none 0 0) (.slice none 0 0) (.slice none 0 0) (.slice none 0 0) (.slice none 0 0) (.slice none 0 0) (.slice none 0 0) HS2.out.symm)
        have HM3 := hideM (HM.out.on (new_on w2 (.cells #[.slice (some ⟨wr.heap.size, 0, none⟩) 1 1, .slice none 0 0, .slice (some ⟨wr.heap.size + 1, 0, none⟩) 1 1, .slice none 0 0, .slice none 0 0, .slice none 0 0, .slice none 0 0, .slice none 0 0, .slice none 0 0, .slice none 0 0] 36)))
        have HB3 := hideM (below_go (below_go HB.out HB2.out) (new_on w2 (.cells #[.slice (some ⟨wr.heap.size, 0, none⟩) 1 1, .slice none 0 0, .slice (some ⟨wr.heap.size + 1, 0, none⟩) 1 1, .slice none 0 0, .slice none 0 0, .slice none 0 0, .slice none 0 0, .slice none 0 0, .slice none 0 0, .slice none 0 0] 36)))
        obtain ⟨w3, hw3⟩ : ∃ w3, w3 = w2.alloc (.cells #[.slice (some ⟨wr.heap.size, 0, none⟩) 1 1, .slice none 0 0, .slice (some ⟨wr.heap.size + 1, 0, none⟩) 1 1, .slice none 0 0, .slice none 0 0, .slice none 0 0, .slice none 0 0, .slice none 0 0, .slice none 0 0, .slice none 0 0] 36) := ⟨_, rfl⟩
        rw [← hw3] at HT HM3 HB3 ⊢
        clear hw3 HM HB2 HS2 HA
        have HI3 := hideM (C.keep HB3.out HI.out)
        generalize hp : wr.heap.size + 1 + 1 = p at *
        clear hp
        obtain ⟨q0, q1, q2, q3, q4, q5, q6, q7, q8, q9⟩ := HT.out
        go_wp2_with fail
        refine (pCheckC C (j + 1) _ _ _ _ _ _ _ _ _ _ (mFun (nest j)) _ HI3.out HM3.out (okFun _ (by omega))).mono ?_
        rintro e u3 ⟨rfl, hb⟩
        rw [HV.out]
        clear q0 q1 q2 q3 q4 q5 q6 q7 q8 q9
        have HT := hideM (HT.out.on hb)
        have HM3 := hideM (HM3.out.on hb)
        have HI3 := hideM (C.keep hb HI3.out)
        have HB3 := hideM (below_go HB3.out hb)
        clear hb
        obtain ⟨q0, q1, q2, q3, q4, q5, q6, q7, q8, q9⟩ := HT.out
        go_wp2_with fail
        refine (pCount (j + 1) (by omega) _ _ _ _ _ _ _ _ _ _ (mFun (nest j)).funcs _ HM3.out.funcs HM3.out.ten).mono ?_
        rintro e u4 ⟨rfl, hb⟩
        rw [HC.out]
        clear q0 q1 q2 q3 q4 q5 q6 q7 q8 q9
        have HI3 := hideM (C.keep hb HI3.out)
        have HB3 := hideM (below_go HB3.out hb)
        clear hb
        go_wp2_with fail
        refine (pWakes C _ HI3.out).mono ?_
        rintro e u5 ⟨rfl, hb⟩
        have HB3 := hideM (below_go HB3.out hb)
        clear hb
        go_wp2
        go_ret
        exact ⟨rfl, HB3.out⟩
      · have HV : Hid (chk (mFun (nest j)) = 4) := hideM (by rw [HK.out]; simp [h64])
        go_upto_region 9 with fail
        obtain ⟨w2, hw2⟩ : ∃ w2, w2 = (wr.alloc (.cells #[.slice none 0 0, .slice none 0 0] 47)).alloc (.cells #[.int .i64 0, .slice none 0 0, .slice (some ⟨b, 0, none⟩) 1 1] 49) := ⟨_, rfl⟩
        rw [← hw2] at HM ⊢
        have HB2 : Hid (Below wr.heap.size wr w2) := hideM (by rw [hw2]; exact below_go (new_on _ _) (new_on _ _))
        have HS2 : Hid (w2.heap.size = wr.heap.size + 1 + 1) := hideM (by rw [hw2]; simp)
        clear hw2
        have HT := hideM (Ten.new w2 36 (wr.heap.size + 1 + 1) (.slice (some ⟨wr.heap.size, 0, none⟩) 1 1) (.slice none 0 0) (.slice (some ⟨wr.heap.size + 1, 0, none⟩) 1 1) (.slice none 0 0) (.slice none 0 0) (.slice none 0 0) (.slice none 0 0) (.slice none 0 0) (.slice none 0 0) (.slice none 0 0) HS2.out.symm)
        have HM3 := hideM (HM.out.on (new_on w2 (.cells #[.slice (some ⟨wr.heap.size, 0, none⟩) 1 1, .slice none 0 0, .slice (some ⟨wr.heap.size + 1, 0, none⟩) 1 1, .slice none 0 0, .slice none 0 0, .slice none 0 0, .slice none 0 0, .slice none 0 0, .slice none 0 0, .slice none 0 0] 36)))
        have HB3 := hideM (below_go (below_go HB.out HB2.out) (new_on w2 (.cells #[.slice (some ⟨wr.heap.size, 0, none⟩) 1 1, .slice none 0 0, .slice (some ⟨wr.heap.size + 1, 0, none⟩) 1 1, .slice none 0 0, .slice none 0 0, .slice none 0 0, .slice none 0 0, .slice none 0 0, .slice none 0 0, .slice none 0 0] 36)))
        obtain ⟨w3, hw3⟩ : ∃ w3, w3 = w2.alloc (.cells #[.slice (some ⟨wr.heap.size, 0, none⟩) 1 1, .slice none 0 0, .slice (some ⟨wr.heap.size + 1, 0, none⟩) 1 1, .slice none 0 0, .slice none 0 0, .slice none 0 0, .slice none 0 0, .slice none 0 0, .slice none 0 0, .slice none 0 0] 36) := ⟨_, rfl⟩
        rw [← hw3] at HT HM3 HB3 ⊢
        clear hw3 HM HB2 HS2 HA
        have HI3 := hideM (C.keep HB3.out HI.out)
        generalize hp : wr.heap.size + 1 + 1 = p at *
        clear hp
        obtain ⟨q0, q1, q2, q3, q4, q5, q6, q7, q8, q9⟩ := HT.out
        go_wp2_with fail
        refine (pCheckC C (j + 1) _ _ _ _ _ _ _ _ _ _ (mFun (nest j)) _ HI3.out HM3.out (okFun _ (by omega))).mono ?_
        rintro e u3 ⟨rfl, hb⟩
        rw [HV.out]
        clear q0 q1 q2 q3 q4 q5 q6 q7 q8 q9
        have HT := hideM (HT.out.on hb)
        have HM3 := hideM (HM3.out.on hb)
        have HI3 := hideM (C.keep hb HI3.out)
        have HB3 := hideM (below_go HB3.out hb)
        clear hb
        obtain ⟨q0, q1, q2, q3, q4, q5, q6, q7, q8, q9⟩ := HT.out
        go_wp2_with fail
        refine (pCount (j + 1) (by omega) _ _ _ _ _ _ _ _ _ _ (mFun (nest j)).funcs _ HM3.out.funcs HM3.out.ten).mono ?_
        rintro e u4 ⟨rfl, hb⟩
        rw [HC.out]
        clear q0 q1 q2 q3 q4 q5 q6 q7 q8 q9
        have HI3 := hideM (C.keep hb HI3.out)
        have HB3 := hideM (below_go HB3.out hb)
        clear hb
        go_wp2_with fail
        refine (pWakes C _ HI3.out).mono ?_
        rintro e u5 ⟨rfl, hb⟩
        have HB3 := hideM (below_go HB3.out hb)
        clear hb
        go_wp2
        go_ret
        exact ⟨rfl, HB3.out⟩
end Go.Proofs.YtmedpblpcfobdaaDoor
