/- For every place, size, number and ground the call MemoryBack(x) returns true: what is stored is loaded, cut to its size, and the bytes beside stay. No condition. -/
import Derived.Test.YtagcdnkgochpnaaM9
import Derived.ProofKit
import Derived.OpenShut
import Derived.ShutString
import Derived.SizedLaws
import Derived.Lib.SmallJoins
namespace Go.Proofs.Ytagcdnkgochpnaa.memoryBack
open Go.ChangeShapes Go.WideShapes Go.ChangeAt Go.RowKit Go.Joins
open Go.ChangeMaps (open_string shut_string)
set_option linter.unusedVariables false

theorem own : ownKnob Try.prog.godebug = none := by kernel_rfl

theorem cellsAsk : Try.prog.cellsOf 45 = 4 := by kernel_rfl
set_option maxHeartbeats 1000000 in
theorem walk (a0 : Int) (a1 : Int) (a2 : Int) (a3 : Int) (w0 : (Lit.int .u64 a0).wf = true) (w1 : (Lit.int .i64 a1).wf = true) (w2 : (Lit.int .u64 a2).wf = true) (w3 : (Lit.int .u64 a3).wf = true) (w : World) :
    Calls Try.prog 4 #[.agg #[.int .u64 a0, .int .i64 a1, .int .u64 a2, .int .u64 a3]] w fun e w' => e = .returned (.bool true) ∧ Below w.heap.size w w' := by
  exact backC a0 a1 a2 a3 (bounds_u64 w0) (bounds_i64 w1) (bounds_u64 w2) (bounds_u64 w3) w

set_option maxRecDepth 100000 in
theorem lifted (os : Os) (started : os.Started) (H : Type) (enc : TypeId × Value → H) :
    ReturnsInHanded {} Try.checked os 4 .any (Rows.memoryBackSpec.pre6 enc Try.prog Try.f4 Rows.memoryBackRow.domain false) (Rows.memoryBackSpec.post enc Try.prog Try.f4 false true false false) := by
  refine returnsInHanded_of_change (C := Try.checked) own started (by kernel_rfl) Try.func4
    (ChangeSpec.witness6 (enc := enc) (C := Try.checked) false ⟨#[], #[.agg #[.int .u64 0, .int .i64 0, .int .u64 0, .int .u64 0]], []⟩ 8 (by kernel_rfl) (by kernel_rfl) (by kernel_rfl) (by kernel_rfl)) ?_
  intro W base args ds gs before hval0 hW hcnd _
  have hval : ∀ (j : Nat) t v, Try.f4.params[j]? = some t → args[j]? = some v → Value.okWide Try.prog W .any base t v := hval0
  have hW' := hW
  obtain ⟨p, q, hA0, hV, rfl, hfz, hnd⟩ := hW
  have hA : DataW.TrodAll enc Try.prog W 0 (fun _ => true) true Try.f4.params.toList args.toList ds p := hA0
  rw [Try.params4] at hA hval
  obtain ⟨v0, vs0, d0, ds0, p0, q0, hargs, rfl, rfl, h0, r0⟩ := trodAll_cons hA
  obtain ⟨rfl, rfl, rfl⟩ := trodAll_nil r0
  obtain rfl : args = #[v0] := by cases args; simp_all
  obtain ⟨c0, c1, c2, c3, y0, y1, y2, y3, m, rfl, rfl, rfl, hy0, hy1, hy2, hy3⟩ := open_agg4 Try.underlying45 (by kernel_rfl) cellsAsk (hval 0 45 v0 rfl rfl) h0
  obtain ⟨rfl, rfl⟩ := trodVars_none hV
  obtain ⟨a0, e0, rfl, w0⟩ := DataW.trod_int Try.underlying32 hy0
  obtain rfl := (List.cons.inj e0).1
  obtain ⟨a1, e1, rfl, w1⟩ := DataW.trod_int Try.underlying3 hy1
  obtain rfl := (List.cons.inj e1).1
  obtain ⟨a2, e2, rfl, w2⟩ := DataW.trod_int Try.underlying32 hy2
  obtain rfl := (List.cons.inj e2).1
  obtain ⟨a3, e3, rfl, w3⟩ := DataW.trod_int Try.underlying32 hy3
  obtain rfl := (List.cons.inj e3).1
  clear hA0 hval0
  refine (walk a0 a1 a2 a3 w0 w1 w2 w3 W).mono fun e W' ⟨he, bel⟩ => ?_
  subst he
  exact ⟨_, rfl, _, _, _, [], [], [], hW', trodAll_mk1 (shut_bool Try.underlying4 _), (trodAll_cons_mk (shut_agg4 (y0 := (.lit (.int .u64 a0), [])) (y1 := (.lit (.int .i64 a1), [])) (y2 := (.lit (.int .u64 a2), [])) (y3 := (.lit (.int .u64 a3), [])) Try.underlying45 (by kernel_rfl) cellsAsk ⟨1, by simp [DataW.trod, Try.underlying32, w0]⟩ ⟨1, by simp [DataW.trod, Try.underlying3, w1]⟩ ⟨1, by simp [DataW.trod, Try.underlying32, w2]⟩ ⟨1, by simp [DataW.trod, Try.underlying32, w3]⟩) trodAll_mk0), rfl, bel.frame _, fun h => by cases h⟩

theorem over : Rows.memoryBackRow.holds Try.pinned (OpenSpec.ofChange Rows.memoryBackSpec) :=
  OpenClaim.holds_of_wide 4 Try.f4 rfl rfl rfl rfl rfl rfl rfl ⟨rfl, rfl, rfl, rfl, rfl⟩ rfl rfl rfl rfl rfl (by kernel_rfl) Try.func4 (by kernel_rfl)
    (of_decide_eq_true (by kernel_rfl)) (by unfold Func.isWrapper; first | (rw [if_pos (by decide +kernel)]; kernel_rfl) | (rw [if_neg (by decide +kernel)]; exact ⟨rfl, rfl⟩))
    (fun os started H enc _ => lifted os started H enc)
end Go.Proofs.Ytagcdnkgochpnaa.memoryBack
namespace Go.Proofs.Ytagcdnkgochpnaa
theorem memoryBack_holds : Rows.MemoryBackSaid := memoryBack.over
#print axioms memoryBack_holds
end Go.Proofs.Ytagcdnkgochpnaa
