/- For every uint64 n, int64 m and string around the call LebBack(n, m, around) returns true: numbers that are put are read as they were, whatever stands ahead and behind; cut off they are none. No condition. -/
import Derived.Test.YtpigdljibfddlaaWakes
import Derived.Test.YtpigdljibfddlaaBack2
import Derived.ProofKit
import Derived.OpenShut
import Derived.ShutString
import Derived.SizedLaws
namespace Go.Proofs.Ytpigdljibfddlaa.lebBack
open Go.ChangeShapes Go.WideShapes Go.ChangeAt Go.RowKit
open Go.ChangeMaps (open_string shut_string)
set_option linter.unusedVariables false

theorem own : ownKnob Try.prog.godebug = none := by kernel_rfl

set_option maxHeartbeats 1000000 in
theorem walk (a0 : Int) (a1 : Int) (a2 : ByteArray) (w0 : (Lit.int .u64 a0).wf = true) (w1 : (Lit.int .i64 a1).wf = true) (w2 : a2.size ≤ 140737488351232) (w : World) :
    Calls Try.prog 6 #[.int .u64 a0, .int .i64 a1, .string a2] w fun e w' => e = .returned (.bool true) ∧ Below w.heap.size w w' := by
  have h0 := bounds_u64 w0
  have h1 := bounds_i64 w1
  by_cases hbig : 1000 < a2.size
  · go_enter Try.func6, Try.ntmps6
    go_wp2_with fail
    refine (c13 _).mono ?_
    rintro e u1 ⟨rfl, hb1⟩
    go_wp2
    go_ret
    exact ⟨rfl, hb1⟩
  · have hA : (strOfNums (Leb.uB a0)).size = (Leb.uB a0).length := strOfNums_size _
    have hB : (strOfNums (Leb.sB a1)).size = (Leb.sB a1).length := strOfNums_size _
    have hA10 := Leb.uB_ten h0.1 (by omega)
    have hB10 := Leb.sB_ten h1.1 (by omega)
    have hA1 := Leb.uB_pos a0
    have hB1 := Leb.sB_pos a1
    have hszA : (a2 ++ strOfNums (Leb.uB a0) ++ a2).size = a2.size + (strOfNums (Leb.uB a0)).size + a2.size := by rw [ByteArray.size_append, ByteArray.size_append]
    have hszB : (a2 ++ strOfNums (Leb.sB a1) ++ a2).size = a2.size + (strOfNums (Leb.sB a1)).size + a2.size := by rw [ByteArray.size_append, ByteArray.size_append]
    have r1 : Leb.uRead (a2 ++ strOfNums (Leb.uB a0) ++ a2) (a2.size : Int) 64 = (a0, (a2.size : Int) + ((strOfNums (Leb.uB a0)).size : Int), 0) := by
      rw [hA]
      exact Leb.uRead_at _ a2.size a0 h0.1 (by omega) (fun j hj => by rw [Leb.bt_left _ _ _ (by rw [ByteArray.size_append]; omega), Leb.bt_right]; exact Leb.u_nums a0 h0.1 j hj) (by omega)
    have r2 : Leb.sRead (a2 ++ strOfNums (Leb.sB a1) ++ a2) (a2.size : Int) 64 = (a1, (a2.size : Int) + ((strOfNums (Leb.sB a1)).size : Int), 0) := by
      rw [hB]
      exact Leb.sRead_at _ a2.size a1 h1.1 (by omega) (fun j hj => by rw [Leb.bt_left _ _ _ (by rw [ByteArray.size_append]; omega), Leb.bt_right]; exact Leb.s_nums a1 j hj) (by omega)
    have r3 : Leb.uRead ((strOfNums (Leb.uB a0)).extract 0 ((strOfNums (Leb.uB a0)).size - 1)) 0 64 = (0, 0, 10) :=
      Leb.uRead_cut _ a0 h0.1 (fun j hj => by rw [Leb.bt_cut _ _ _ (by omega) (by omega)]; exact Leb.u_nums a0 h0.1 j (by omega)) (by rw [ByteArray.size_extract]; omega)
    have r4 : Leb.sRead ((strOfNums (Leb.sB a1)).extract 0 ((strOfNums (Leb.sB a1)).size - 1)) 0 64 = (0, 0, 10) :=
      Leb.sRead_cut _ a1 (fun j hj => by rw [Leb.bt_cut _ _ _ (by omega) (by omega)]; exact Leb.s_nums a1 j (by omega)) (by rw [ByteArray.size_extract]; omega)
    have p0 := fun w => c9 a0 w h0.1 (by omega)
    have p1 := fun w => c11 a1 w h1.1 (by omega)
    rw [← hA] at hA10 hA1
    rw [← hB] at hB10 hB1
    clear hA hB
    generalize strOfNums (Leb.uB a0) = A at *
    generalize strOfNums (Leb.sB a1) = B at *
    have P0 : Hid _ := p0
    have P1 : Hid _ := p1
    have R1 : Hid _ := r1
    have R2 : Hid _ := r2
    have R3 : Hid _ := r3
    have R4 : Hid _ := r4
    have HA : Hid _ := hszA
    have HB : Hid _ := hszB
    clear p0 p1 r1 r2 r3 r4 hszA hszB
    go_enter Try.func6, Try.ntmps6
    go_wp2_with fail
    refine (P0.out _).mono ?_
    rintro e u1 ⟨rfl, hb1⟩
    go_wp2_with fail
    refine (P1.out _).mono ?_
    rintro e u2 ⟨rfl, hb2⟩
    go_wp2_with fail
    refine (c14 _ _ _ _ (by rw [HA.out]; omega)).mono ?_
    rintro e u3 ⟨rfl, hb3⟩
    rw [R1.out]
    go_wp2_with fail
    refine (c16 _ _ _ _ (by rw [HB.out]; omega)).mono ?_
    rintro e u4 ⟨rfl, hb4⟩
    rw [R2.out]
    go_wp2_with fail
    refine (c14 _ _ _ _ (by rw [ByteArray.size_extract]; omega)).mono ?_
    rintro e u5 ⟨rfl, hb5⟩
    rw [R3.out]
    go_wp2_with fail
    refine (c16 _ _ _ _ (by rw [ByteArray.size_extract]; omega)).mono ?_
    rintro e u6 ⟨rfl, hb6⟩
    rw [R4.out]
    go_wp2_with fail
    refine (c13 _).mono ?_
    rintro e u7 ⟨rfl, hb7⟩
    go_wp2
    go_ret
    exact ⟨rfl, bel_on (bel_on (bel_on (bel_on (bel_on (bel_on hb1 hb2) hb3) hb4) hb5) hb6) hb7⟩

set_option maxRecDepth 100000 in
theorem lifted (os : Os) (started : os.Started) (H : Type) (enc : TypeId × Value → H) :
    ReturnsInHanded {} Try.checked os 6 .any (Rows.lebBackSpec.pre6 enc Try.prog Try.f6 Rows.lebBackRow.domain false) (Rows.lebBackSpec.post enc Try.prog Try.f6 false true false false) := by
  refine returnsInHanded_of_change_sized (C := Try.checked) own started (by kernel_rfl) Try.func6
    (ChangeSpec.witness6 (enc := enc) (C := Try.checked) false ⟨#[], #[.int .u64 0, .int .i64 0, .string ByteArray.empty], []⟩ 8 (by kernel_rfl) (by kernel_rfl) (by kernel_rfl) (by kernel_rfl)) ?_
  intro W base args ds gs before hval0 hW hcnd hsz0 _
  have hsz : (DataW.weightsEach Try.prog (Try.f6.params.toList ++ Rows.lebBackSpec.plain.varTypes Try.prog) (ds ++ gs)).all (· ≤ reachBytes) = true := hsz0
  have hval : ∀ (j : Nat) t v, Try.f6.params[j]? = some t → args[j]? = some v → Value.okWide Try.prog W .any base t v := hval0
  have hW' := hW
  obtain ⟨p, q, hA0, hV, rfl, hfz, hnd⟩ := hW
  have hA : DataW.TrodAll enc Try.prog W 0 (fun _ => true) true Try.f6.params.toList args.toList ds p := hA0
  rw [Try.params6] at hA hval hsz
  obtain ⟨v0, vs0, d0, ds0, p0, q0, hargs, rfl, rfl, h0, r0⟩ := trodAll_cons hA
  obtain ⟨v1, vs1, d1, ds1, p1, q1, rfl, rfl, rfl, h1, r1⟩ := trodAll_cons r0
  obtain ⟨v2, vs2, d2, ds2, p2, q2, rfl, rfl, rfl, h2, r2⟩ := trodAll_cons r1
  obtain ⟨rfl, rfl, rfl⟩ := trodAll_nil r2
  obtain rfl : args = #[v0, v1, v2] := by cases args; simp_all
  obtain ⟨rfl, rfl⟩ := trodVars_none hV
  obtain ⟨a0, rfl, rfl, rfl, w0⟩ := open_int Try.underlying22 (hval 0 22 v0 rfl rfl) h0
  obtain ⟨a1, rfl, rfl, rfl, w1⟩ := open_int Try.underlying2 (hval 1 2 v1 rfl rfl) h1
  obtain ⟨a2, rfl, rfl, rfl, w2⟩ := open_string Try.underlying9 (hval 2 9 v2 rfl rfl) h2
  have s2 : a2.size ≤ 140737488351232 := by have := sized_string hsz (j := 2) (t := 9) rfl rfl; simpa [reachBytes] using this
  clear hA0 hval0
  refine (walk a0 a1 a2 w0 w1 s2 W).mono fun e W' ⟨he, bel⟩ => ?_
  subst he
  exact ⟨_, rfl, _, _, _, [], [], [], hW', trodAll_mk1 (shut_bool Try.underlying4 _), (trodAll_cons_mk (shut_int Try.underlying22 w0) (trodAll_cons_mk (shut_int Try.underlying2 w1) (trodAll_cons_mk (shut_string Try.underlying9 w2) trodAll_mk0))), rfl, bel.frame _, fun h => by cases h⟩

theorem over : Rows.lebBackRow.holds Try.pinned (OpenSpec.ofChange Rows.lebBackSpec) :=
  OpenClaim.holds_of_wide 6 Try.f6 rfl rfl rfl rfl rfl rfl rfl ⟨rfl, rfl, rfl, rfl, rfl⟩ rfl rfl rfl rfl rfl (by kernel_rfl) Try.func6 (by kernel_rfl)
    (of_decide_eq_true (by kernel_rfl)) (by unfold Func.isWrapper; first | (rw [if_pos (by decide +kernel)]; kernel_rfl) | (rw [if_neg (by decide +kernel)]; exact ⟨rfl, rfl⟩))
    (fun os started H enc _ => lifted os started H enc)
end Go.Proofs.Ytpigdljibfddlaa.lebBack
namespace Go.Proofs.Ytpigdljibfddlaa
theorem lebBack_holds : Rows.LebBackSaid := lebBack.over
#print axioms lebBack_holds
end Go.Proofs.Ytpigdljibfddlaa
