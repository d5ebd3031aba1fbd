/- For every string s and int at the call LebShort(s, at) returns true: what is read is put in no more bytes, and read as the same then; what fits in 32 bits is read so, too. No condition. -/
import Derived.Test.YtpigdljibfddlaaWakes
import Derived.Test.YtpigdljibfddlaaBack2
import Derived.ProofKit
import Derived.OpenShut
import Derived.ShutString
import Derived.SizedLaws
namespace Go.Proofs.Ytpigdljibfddlaa.lebShort
open Go.ChangeShapes Go.WideShapes Go.ChangeAt Go.RowKit
open Go.ChangeMaps (open_string shut_string)
set_option linter.unusedVariables false

theorem own : ownKnob Try.prog.godebug = none := by kernel_rfl

set_option maxHeartbeats 8000000 in
theorem walk (a0 : ByteArray) (a1 : Int) (w0 : a0.size ≤ 140737488351232) (w1 : (Lit.int .i64 a1).wf = true) (w : World) :
    Calls Try.prog 7 #[.string a0, .int .i64 a1] w fun e w' => e = .returned (.bool true) ∧ Below w.heap.size w w' := by
  have ha := bounds_i64 w1
  have rU := Leb.uRead_short a0 a1
  have rS := Leb.sRead_short a0 a1
  have hU := fun w => c14 a0 a1 64 w w0
  have hS := fun w => c16 a0 a1 64 w w0
  generalize Leb.uRead a0 a1 64 = X at *
  generalize Leb.sRead a0 a1 64 = Y at *
  obtain ⟨n, p, e1⟩ := X
  obtain ⟨m, q, e2⟩ := Y
  simp only at rU rS hU hS
  have HU : Hid _ := hU
  have HS : Hid _ := hS
  clear hU hS
  have partU : e1 = 0 → ∃ A : ByteArray, A.size ≤ 10 ∧ (A.size : Int) ≤ p - a1 ∧ 0 ≤ a1 ∧ p ≤ 140737488351232 ∧ Hid (∀ w, Calls Try.prog 9 #[.int .u64 n] w fun e w' => e = .returned (.string A) ∧ Below w.heap.size w w') ∧
      Hid (Leb.uRead A 0 64 = (n, (A.size : Int), 0)) ∧ ((decide (n < 4294967296) = true ∧ Hid ((Leb.uRead A 0 32).2.2 = 0)) ∨ (decide (n < 4294967296) = false ∧ Hid ((Leb.uRead A 0 32).2.2 = 10))) := by
    intro h
    obtain ⟨h0, h1, h2, h3, h4⟩ := rU h
    have hA : (strOfNums (Leb.uB n)).size = (Leb.uB n).length := strOfNums_size _
    have hA10 := Leb.uB_ten h0 h1
    refine ⟨strOfNums (Leb.uB n), by omega, by omega, h3, by omega, fun w => c9 n w h0 (by omega), ?_, ?_⟩
    · have := Leb.uRead_at (strOfNums (Leb.uB n)) 0 n h0 h1 (fun j hj => by rw [Nat.zero_add]; exact Leb.u_nums n h0 j hj) (by omega)
      unfold Hid
      rw [hA]
      simpa using this
    · have := Leb.uRead_32 (strOfNums (Leb.uB n)) n h0 (fun j hj => Leb.u_nums n h0 j hj) (by omega)
      by_cases hn : n < 4294967296
      · rw [if_pos hn] at this
        exact .inl ⟨decide_eq_true hn, this⟩
      · rw [if_neg hn] at this
        exact .inr ⟨decide_eq_false hn, this⟩
  have partS : e2 = 0 → ∃ B : ByteArray, B.size ≤ 10 ∧ (B.size : Int) ≤ q - a1 ∧ 0 ≤ a1 ∧ q ≤ 140737488351232 ∧ Hid (∀ w, Calls Try.prog 11 #[.int .i64 m] w fun e w' => e = .returned (.string B) ∧ Below w.heap.size w w') ∧
      Hid (Leb.sRead B 0 64 = (m, (B.size : Int), 0)) ∧ ((-2147483648 ≤ m ∧ m < 2147483648 ∧ Hid ((Leb.sRead B 0 32).2.2 = 0)) ∨ (m < -2147483648 ∧ Hid ((Leb.sRead B 0 32).2.2 = 10)) ∨ (-2147483648 ≤ m ∧ 2147483648 ≤ m ∧ Hid ((Leb.sRead B 0 32).2.2 = 10))) := by
    intro h
    obtain ⟨h0, h1, h2, h3, h4⟩ := rS h
    have hB : (strOfNums (Leb.sB m)).size = (Leb.sB m).length := strOfNums_size _
    have hB10 := Leb.sB_ten h0 h1
    refine ⟨strOfNums (Leb.sB m), by omega, by omega, h3, by omega, fun w => c11 m w h0 (by omega), ?_, ?_⟩
    · have := Leb.sRead_at (strOfNums (Leb.sB m)) 0 m h0 h1 (fun j hj => by rw [Nat.zero_add]; exact Leb.s_nums m j hj) (by omega)
      unfold Hid
      rw [hB]
      simpa using this
    · have := Leb.sRead_32 (strOfNums (Leb.sB m)) m (fun j hj => Leb.s_nums m j hj) (by omega)
      by_cases hm : -2147483648 ≤ m ∧ m < 2147483648
      · rw [if_pos hm] at this
        exact .inl ⟨hm.1, hm.2, this⟩
      · rw [if_neg hm] at this
        by_cases h' : m < -2147483648
        · exact .inr (.inl ⟨h', this⟩)
        · exact .inr (.inr ⟨by omega, by omega, this⟩)
  clear rU rS
  by_cases he1 : e1 = 0
  · obtain ⟨A, hA1, hA2, hA3, hA4, PA, RA, hA5⟩ := partU he1
    subst he1
    clear partU
    by_cases he2 : e2 = 0
    · obtain ⟨B, hB1, hB2, hB3, hB4, PB, RB, hB5⟩ := partS he2
      subst he2
      clear partS
      rcases hA5 with ⟨h1, R1⟩ | ⟨h1, R1⟩ <;> rcases hB5 with ⟨h2, h3, R2⟩ | ⟨h2, R2⟩ | ⟨h2, h3, R2⟩
      all_goals
        go_enter Try.func7, Try.ntmps7
        go_wp2_with fail
        refine (HU.out _).mono ?_
        rintro e u1 ⟨rfl, hb1⟩
        go_wp2_with fail
        refine (PA.out _).mono ?_
        rintro e u2 ⟨rfl, hb2⟩
        go_wp2_with fail
        refine (c14 _ _ _ _ (by omega)).mono ?_
        rintro e u3 ⟨rfl, hb3⟩
        rw [RA.out]
        go_wp2_with fail
        refine (c14 _ _ _ _ (by omega)).mono ?_
        rintro e u4 ⟨rfl, hb4⟩
        rw [R1.out]
        go_wp2_with fail
        refine (HS.out _).mono ?_
        rintro e u5 ⟨rfl, hb5⟩
        go_wp2_with fail
        refine (PB.out _).mono ?_
        rintro e u6 ⟨rfl, hb6⟩
        go_wp2_with fail
        refine (c16 _ _ _ _ (by omega)).mono ?_
        rintro e u7 ⟨rfl, hb7⟩
        rw [RB.out]
        go_wp2_with fail
        refine (c16 _ _ _ _ (by omega)).mono ?_
        rintro e u8 ⟨rfl, hb8⟩
        rw [R2.out]
        go_wp2_with fail
        refine (c13 _).mono ?_
        rintro e u9 ⟨rfl, hb9⟩
        go_wp2
        go_ret
        exact ⟨rfl, bel_on (bel_on (bel_on (bel_on (bel_on (bel_on (bel_on (bel_on hb1 hb2) hb3) hb4) hb5) hb6) hb7) hb8) hb9⟩
    · have he2' : (e2 == 0) = false := by simpa using he2
      clear partS he2
      rcases hA5 with ⟨h1, R1⟩ | ⟨h1, R1⟩
      all_goals
        go_enter Try.func7, Try.ntmps7
        go_wp2_with fail
        refine (HU.out _).mono ?_
        rintro e u1 ⟨rfl, hb1⟩
        go_wp2_with fail
        refine (PA.out _).mono ?_
        rintro e u2 ⟨rfl, hb2⟩
        go_wp2_with fail
        refine (c14 _ _ _ _ (by omega)).mono ?_
        rintro e u3 ⟨rfl, hb3⟩
        rw [RA.out]
        go_wp2_with fail
        refine (c14 _ _ _ _ (by omega)).mono ?_
        rintro e u4 ⟨rfl, hb4⟩
        rw [R1.out]
        go_wp2_with fail
        refine (HS.out _).mono ?_
        rintro e u5 ⟨rfl, hb5⟩
        go_wp2_with fail
        refine (c13 _).mono ?_
        rintro e u9 ⟨rfl, hb9⟩
        go_wp2
        go_ret
        exact ⟨rfl, bel_on (bel_on (bel_on (bel_on (bel_on hb1 hb2) hb3) hb4) hb5) hb9⟩
  · have he1' : (e1 == 0) = false := by simpa using he1
    clear partU he1
    by_cases he2 : e2 = 0
    · obtain ⟨B, hB1, hB2, hB3, hB4, PB, RB, hB5⟩ := partS he2
      subst he2
      clear partS
      rcases hB5 with ⟨h2, h3, R2⟩ | ⟨h2, R2⟩ | ⟨h2, h3, R2⟩
      all_goals
        go_enter Try.func7, Try.ntmps7
        go_wp2_with fail
        refine (HU.out _).mono ?_
        rintro e u1 ⟨rfl, hb1⟩
        go_wp2_with fail
        refine (HS.out _).mono ?_
        rintro e u5 ⟨rfl, hb5⟩
        go_wp2_with fail
        refine (PB.out _).mono ?_
        rintro e u6 ⟨rfl, hb6⟩
        go_wp2_with fail
        refine (c16 _ _ _ _ (by omega)).mono ?_
        rintro e u7 ⟨rfl, hb7⟩
        rw [RB.out]
        go_wp2_with fail
        refine (c16 _ _ _ _ (by omega)).mono ?_
        rintro e u8 ⟨rfl, hb8⟩
        rw [R2.out]
        go_wp2_with fail
        refine (c13 _).mono ?_
        rintro e u9 ⟨rfl, hb9⟩
        go_wp2
        go_ret
        exact ⟨rfl, bel_on (bel_on (bel_on (bel_on (bel_on hb1 hb5) hb6) hb7) hb8) hb9⟩
    · have he2' : (e2 == 0) = false := by simpa using he2
      clear partS he2
      go_enter Try.func7, Try.ntmps7
      go_wp2_with fail
      refine (HU.out _).mono ?_
      rintro e u1 ⟨rfl, hb1⟩
      go_wp2_with fail
      refine (HS.out _).mono ?_
      rintro e u5 ⟨rfl, hb5⟩
      go_wp2_with fail
      refine (c13 _).mono ?_
      rintro e u9 ⟨rfl, hb9⟩
      go_wp2
      go_ret
      exact ⟨rfl, bel_on (bel_on hb1 hb5) hb9⟩

set_option maxRecDepth 100000 in
theorem lifted (os : Os) (started : os.Started) (H : Type) (enc : TypeId × Value → H) :
    ReturnsInHanded {} Try.checked os 7 .any (Rows.lebShortSpec.pre6 enc Try.prog Try.f7 Rows.lebShortRow.domain false) (Rows.lebShortSpec.post enc Try.prog Try.f7 false true false false) := by
  refine returnsInHanded_of_change_sized (C := Try.checked) own started (by kernel_rfl) Try.func7
    (ChangeSpec.witness6 (enc := enc) (C := Try.checked) false ⟨#[], #[.string ByteArray.empty, .int .i64 0], []⟩ 8 (by kernel_rfl) (by kernel_rfl) (by kernel_rfl) (by kernel_rfl)) ?_
  intro W base args ds gs before hval0 hW hcnd hsz0 _
  have hsz : (DataW.weightsEach Try.prog (Try.f7.params.toList ++ Rows.lebShortSpec.plain.varTypes Try.prog) (ds ++ gs)).all (· ≤ reachBytes) = true := hsz0
  have hval : ∀ (j : Nat) t v, Try.f7.params[j]? = some t → args[j]? = some v → Value.okWide Try.prog W .any base t v := hval0
  have hW' := hW
  obtain ⟨p, q, hA0, hV, rfl, hfz, hnd⟩ := hW
  have hA : DataW.TrodAll enc Try.prog W 0 (fun _ => true) true Try.f7.params.toList args.toList ds p := hA0
  rw [Try.params7] at hA hval hsz
  obtain ⟨v0, vs0, d0, ds0, p0, q0, hargs, rfl, rfl, h0, r0⟩ := trodAll_cons hA
  obtain ⟨v1, vs1, d1, ds1, p1, q1, rfl, rfl, rfl, h1, r1⟩ := trodAll_cons r0
  obtain ⟨rfl, rfl, rfl⟩ := trodAll_nil r1
  obtain rfl : args = #[v0, v1] := by cases args; simp_all
  obtain ⟨rfl, rfl⟩ := trodVars_none hV
  obtain ⟨a0, rfl, rfl, rfl, w0⟩ := open_string Try.underlying9 (hval 0 9 v0 rfl rfl) h0
  have s0 : a0.size ≤ 140737488351232 := by have := sized_string hsz (j := 0) (t := 9) rfl rfl; simpa [reachBytes] using this
  obtain ⟨a1, rfl, rfl, rfl, w1⟩ := open_int Try.underlying3 (hval 1 3 v1 rfl rfl) h1
  clear hA0 hval0
  refine (walk a0 a1 s0 w1 W).mono fun e W' ⟨he, bel⟩ => ?_
  subst he
  exact ⟨_, rfl, _, _, _, [], [], [], hW', trodAll_mk1 (shut_bool Try.underlying4 _), (trodAll_cons_mk (shut_string Try.underlying9 w0) (trodAll_cons_mk (shut_int Try.underlying3 w1) trodAll_mk0)), rfl, bel.frame _, fun h => by cases h⟩

theorem over : Rows.lebShortRow.holds Try.pinned (OpenSpec.ofChange Rows.lebShortSpec) :=
  OpenClaim.holds_of_wide 7 Try.f7 rfl rfl rfl rfl rfl rfl rfl ⟨rfl, rfl, rfl, rfl, rfl⟩ rfl rfl rfl rfl rfl (by kernel_rfl) Try.func7 (by kernel_rfl)
    (of_decide_eq_true (by kernel_rfl)) (by unfold Func.isWrapper; first | (rw [if_pos (by decide +kernel)]; kernel_rfl) | (rw [if_neg (by decide +kernel)]; exact ⟨rfl, rfl⟩))
    (fun os started H enc _ => lifted os started H enc)
end Go.Proofs.Ytpigdljibfddlaa.lebShort
namespace Go.Proofs.Ytpigdljibfddlaa
theorem lebShort_holds : Rows.LebShortSaid := lebShort.over
#print axioms lebShort_holds
end Go.Proofs.Ytpigdljibfddlaa
