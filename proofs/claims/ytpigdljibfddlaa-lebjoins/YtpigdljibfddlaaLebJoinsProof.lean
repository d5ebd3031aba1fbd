/- For every uint64 n and every int64 m the call LebJoins(n, m) returns true: two numbers that are put one behind the other are read one by one, and at the end there is none. No condition. -/
import Derived.Test.YtpigdljibfddlaaWakes
import Derived.Test.YtpigdljibfddlaaBack2
import Derived.ProofKit
import Derived.OpenShut
import Derived.ShutString
import Derived.SizedLaws
namespace Go.Proofs.Ytpigdljibfddlaa.lebJoins
open Go.ChangeShapes Go.WideShapes Go.ChangeAt Go.RowKit
open Go.ChangeMaps (open_string shut_string)
set_option linter.unusedVariables false

theorem own : ownKnob Try.prog.godebug = none := by kernel_rfl

set_option maxHeartbeats 1000000 in
theorem walk (a0 : Int) (a1 : Int) (w0 : (Lit.int .u64 a0).wf = true) (w1 : (Lit.int .i64 a1).wf = true) (w : World) :
    Calls Try.prog 8 #[.int .u64 a0, .int .i64 a1] w fun e w' => e = .returned (.bool true) ∧ Below w.heap.size w w' := by
  have h0 := bounds_u64 w0
  have h1 := bounds_i64 w1
  have hA : (strOfNums (Leb.uB a0)).size = (Leb.uB a0).length := strOfNums_size _
  have hB : (strOfNums (Leb.sB a1)).size = (Leb.sB a1).length := strOfNums_size _
  have hA10 := Leb.uB_ten h0.1 (by omega)
  have hB10 := Leb.sB_ten h1.1 (by omega)
  have r1 : Leb.uRead (strOfNums (Leb.uB a0) ++ strOfNums (Leb.sB a1)) 0 64 = (a0, ((strOfNums (Leb.uB a0)).size : Int), 0) := by
    have := Leb.uRead_at (strOfNums (Leb.uB a0) ++ strOfNums (Leb.sB a1)) 0 a0 h0.1 (by omega) (fun j hj => by rw [Nat.zero_add, Leb.bt_left _ _ _ (by omega)]; exact Leb.u_nums a0 h0.1 j hj) (by rw [ByteArray.size_append]; omega)
    rw [hA]
    simpa using this
  have r2 : Leb.sRead (strOfNums (Leb.uB a0) ++ strOfNums (Leb.sB a1)) ((strOfNums (Leb.uB a0)).size : Int) 64 = (a1, ((strOfNums (Leb.uB a0) ++ strOfNums (Leb.sB a1)).size : Int), 0) := by
    have := Leb.sRead_at (strOfNums (Leb.uB a0) ++ strOfNums (Leb.sB a1)) (strOfNums (Leb.uB a0)).size a1 h1.1 (by omega) (fun j hj => by rw [Leb.bt_right]; exact Leb.s_nums a1 j hj) (by rw [ByteArray.size_append]; omega)
    rw [this, ByteArray.size_append, hB]
    simp
  have r3 := Leb.sRead_end (strOfNums (Leb.uB a0) ++ strOfNums (Leb.sB a1))
  have hcat : (strOfNums (Leb.uB a0) ++ strOfNums (Leb.sB a1)).size = (strOfNums (Leb.uB a0)).size + (strOfNums (Leb.sB a1)).size := ByteArray.size_append
  have p0 := fun w => c9 a0 w h0.1 (by omega)
  have p1 := fun w => c11 a1 w h1.1 (by omega)
  rw [← hA] at hA10
  rw [← hB] at hB10
  clear hA hB
  generalize strOfNums (Leb.uB a0) = A at *
  generalize strOfNums (Leb.sB a1) = B at *
  have P0 : Hid _ := p0
  have P1 : Hid _ := p1
  have R1 : Hid _ := r1
  have R2 : Hid _ := r2
  have R3 : Hid _ := r3
  have HC : Hid _ := hcat
  clear p0 p1 r1 r2 r3 hcat
  go_enter Try.func8, Try.ntmps8
  go_wp2_with fail
  refine (P0.out _).mono ?_
  rintro e u1 ⟨rfl, hb1⟩
  go_wp2_with fail
  refine (P1.out _).mono ?_
  rintro e u2 ⟨rfl, hb2⟩
  go_wp2_with fail
  have hcs : (A ++ B).size ≤ 140737488351232 := by rw [HC.out]; omega
  clear HC
  generalize A ++ B = C at *
  refine (c14 _ _ _ _ hcs).mono ?_
  rintro e u3 ⟨rfl, hb3⟩
  rw [R1.out]
  go_wp2_with fail
  refine (c16 _ _ _ _ hcs).mono ?_
  rintro e u4 ⟨rfl, hb4⟩
  rw [R2.out]
  go_wp2_with fail
  refine (c16 _ _ _ _ hcs).mono ?_
  rintro e u5 ⟨rfl, hb5⟩
  rw [R3.out]
  go_wp2_with fail
  refine (c13 _).mono ?_
  rintro e u6 ⟨rfl, hb6⟩
  go_wp2
  go_ret
  exact ⟨rfl, bel_on (bel_on (bel_on (bel_on (bel_on hb1 hb2) hb3) hb4) hb5) hb6⟩

set_option maxRecDepth 100000 in
theorem lifted (os : Os) (started : os.Started) (H : Type) (enc : TypeId × Value → H) :
    ReturnsInHanded {} Try.checked os 8 .any (Rows.lebJoinsSpec.pre6 enc Try.prog Try.f8 Rows.lebJoinsRow.domain false) (Rows.lebJoinsSpec.post enc Try.prog Try.f8 false true false false) := by
  refine returnsInHanded_of_change (C := Try.checked) own started (by kernel_rfl) Try.func8
    (ChangeSpec.witness6 (enc := enc) (C := Try.checked) false ⟨#[], #[.int .u64 0, .int .i64 0], []⟩ 8 (by kernel_rfl) (by kernel_rfl) (by kernel_rfl) (by kernel_rfl)) ?_
  intro W base args ds gs before hval0 hW hcnd _
  have hval : ∀ (j : Nat) t v, Try.f8.params[j]? = some t → args[j]? = some v → Value.okWide Try.prog W .any base t v := hval0
  have hW' := hW
  obtain ⟨p, q, hA0, hV, rfl, hfz, hnd⟩ := hW
  have hA : DataW.TrodAll enc Try.prog W 0 (fun _ => true) true Try.f8.params.toList args.toList ds p := hA0
  rw [Try.params8] at hA hval
  obtain ⟨v0, vs0, d0, ds0, p0, q0, hargs, rfl, rfl, h0, r0⟩ := trodAll_cons hA
  obtain ⟨v1, vs1, d1, ds1, p1, q1, rfl, rfl, rfl, h1, r1⟩ := trodAll_cons r0
  obtain ⟨rfl, rfl, rfl⟩ := trodAll_nil r1
  obtain rfl : args = #[v0, v1] := by cases args; simp_all
  obtain ⟨rfl, rfl⟩ := trodVars_none hV
  obtain ⟨a0, rfl, rfl, rfl, w0⟩ := open_int Try.underlying22 (hval 0 22 v0 rfl rfl) h0
  obtain ⟨a1, rfl, rfl, rfl, w1⟩ := open_int Try.underlying2 (hval 1 2 v1 rfl rfl) h1
  clear hA0 hval0
  refine (walk a0 a1 w0 w1 W).mono fun e W' ⟨he, bel⟩ => ?_
  subst he
  exact ⟨_, rfl, _, _, _, [], [], [], hW', trodAll_mk1 (shut_bool Try.underlying4 _), (trodAll_cons_mk (shut_int Try.underlying22 w0) (trodAll_cons_mk (shut_int Try.underlying2 w1) trodAll_mk0)), rfl, bel.frame _, fun h => by cases h⟩

theorem over : Rows.lebJoinsRow.holds Try.pinned (OpenSpec.ofChange Rows.lebJoinsSpec) :=
  OpenClaim.holds_of_wide 8 Try.f8 rfl rfl rfl rfl rfl rfl rfl ⟨rfl, rfl, rfl, rfl, rfl⟩ rfl rfl rfl rfl rfl (by kernel_rfl) Try.func8 (by kernel_rfl)
    (of_decide_eq_true (by kernel_rfl)) (by unfold Func.isWrapper; first | (rw [if_pos (by decide +kernel)]; kernel_rfl) | (rw [if_neg (by decide +kernel)]; exact ⟨rfl, rfl⟩))
    (fun os started H enc _ => lifted os started H enc)
end Go.Proofs.Ytpigdljibfddlaa.lebJoins
namespace Go.Proofs.Ytpigdljibfddlaa
theorem lebJoins_holds : Rows.LebJoinsSaid := lebJoins.over
#print axioms lebJoins_holds
end Go.Proofs.Ytpigdljibfddlaa
