/- What is asked of a module outside of bodies, of one that has one type and one function alone: printed by gen_v12.py. -/
import Derived.Test.YtlpnoelolkbmmaaDoorV11
namespace Go.Proofs.YtlpnoelolkbmmaaDoor
open Go.RowKit Rep Val
set_option linter.unusedVariables false
section
variable (o0 o1 o2 o3 o4 o5 o6 o7 o8 o9 : Option Addr) (k0 k1 k2 k3 k4 k5 k6 k7 k8 k9 : Nat) (w : World)
set_option maxRecDepth 100000 in
set_option maxHeartbeats 4000000 in
theorem vGlobals : Calls Tryd.prog 16 #[.agg #[.slice o0 1 k0, .slice o1 0 k1, .slice o2 1 k2, .slice o3 0 k3, .slice o4 0 k4, .slice o5 0 k5, .slice o6 0 k6, .slice o7 0 k7, .slice o8 0 k8, .slice o9 0 k9]] w fun e w' => e = .returned (.tuple #[]) ∧ Below w.heap.size w w' := by
  have HB := hideR (fun o => new_on' w o)
  have hmm := @run_makeMap Tryd.prog
  go_enter Tryd.func16, Tryd.ntmps16
  go_wp2_with fail
  go_loopw [7] (fun t wr => t = .int .i64 0 ∧ Hid (Below w.heap.size w wr)) (fun _ _ => 0)
  case atStart => exact ⟨rfl, hideR (HB.out _)⟩
  case round =>
    obtain ⟨rfl, HR⟩ := hrel
    go_wp2
    go_end0
    exact ⟨rfl, HR.out⟩
set_option maxRecDepth 100000 in
set_option maxHeartbeats 4000000 in
theorem vStart : Calls Tryd.prog 18 #[.agg #[.slice o0 1 k0, .slice o1 0 k1, .slice o2 1 k2, .slice o3 0 k3, .slice o4 0 k4, .slice o5 0 k5, .slice o6 0 k6, .slice o7 0 k7, .slice o8 0 k8, .slice o9 0 k9]] w fun e w' => e = .returned (.tuple #[]) ∧ Below w.heap.size w w' := by
  have HB := hideR (fun o => new_on' w o)
  have hmm := @run_makeMap Tryd.prog
  go_enter Tryd.func18, Tryd.ntmps18
  go_wp2_with fail
  go_loopw [8] (fun t wr => t = .int .i64 0 ∧ Hid (Below w.heap.size w wr)) (fun _ _ => 0)
  case atStart => exact ⟨rfl, hideR (HB.out _)⟩
  case round =>
    obtain ⟨rfl, HR⟩ := hrel
    go_wp2
    go_end0
    exact ⟨rfl, HR.out⟩
set_option maxRecDepth 100000 in
set_option maxHeartbeats 4000000 in
theorem vElems : Calls Tryd.prog 19 #[.agg #[.slice o0 1 k0, .slice o1 0 k1, .slice o2 1 k2, .slice o3 0 k3, .slice o4 0 k4, .slice o5 0 k5, .slice o6 0 k6, .slice o7 0 k7, .slice o8 0 k8, .slice o9 0 k9]] w fun e w' => e = .returned (.tuple #[]) ∧ Below w.heap.size w w' := by
  have HB := hideR (fun o => new_on' w o)
  have hmm := @run_makeMap Tryd.prog
  go_enter Tryd.func19, Tryd.ntmps19
  go_wp2_with fail
  go_loopw [9] (fun t wr => t = .int .i64 0 ∧ Hid (Below w.heap.size w wr)) (fun _ _ => 0)
  case atStart => exact ⟨rfl, hideR (HB.out _)⟩
  case round =>
    obtain ⟨rfl, HR⟩ := hrel
    go_wp2
    go_end0
    exact ⟨rfl, HR.out⟩
set_option maxRecDepth 100000 in
set_option maxHeartbeats 4000000 in
theorem vDatas : Calls Tryd.prog 20 #[.agg #[.slice o0 1 k0, .slice o1 0 k1, .slice o2 1 k2, .slice o3 0 k3, .slice o4 0 k4, .slice o5 0 k5, .slice o6 0 k6, .slice o7 0 k7, .slice o8 0 k8, .slice o9 0 k9]] w fun e w' => e = .returned (.tuple #[]) ∧ Below w.heap.size w w' := by
  have HB := hideR (fun o => new_on' w o)
  have hmm := @run_makeMap Tryd.prog
  go_enter Tryd.func20, Tryd.ntmps20
  go_wp2_with fail
  go_loopw [7] (fun t wr => t = .int .i64 0 ∧ Hid (Below w.heap.size w wr)) (fun _ _ => 0)
  case atStart => exact ⟨rfl, hideR (HB.out _)⟩
  case round =>
    obtain ⟨rfl, HR⟩ := hrel
    go_wp2
    go_end0
    exact ⟨rfl, HR.out⟩
set_option maxRecDepth 100000 in
set_option maxHeartbeats 4000000 in
theorem vExports : Calls Tryd.prog 17 #[.agg #[.slice o0 1 k0, .slice o1 0 k1, .slice o2 1 k2, .slice o3 0 k3, .slice o4 0 k4, .slice o5 0 k5, .slice o6 0 k6, .slice o7 0 k7, .slice o8 0 k8, .slice o9 0 k9]] w fun e w' => e = .returned (.tuple #[]) ∧ Below w.heap.size w w' := by
  have HB := hideR (fun o => new_on' w o)
  have hmm := @run_makeMap Tryd.prog
  go_enter Tryd.func17, Tryd.ntmps17
  go_wp2_with fail
  go_loopw [11] (fun t wr => t = .int .i64 0 ∧ Hid (Below w.heap.size w wr)) (fun _ _ => 0)
  case atStart => exact ⟨rfl, hideR (below_go' (HB.out _) (new_on' _ _))⟩
  case round =>
    obtain ⟨rfl, HR⟩ := hrel
    go_wp2
    go_end0
    exact ⟨rfl, HR.out⟩
end
set_option maxRecDepth 100000 in
set_option maxHeartbeats 4000000 in
theorem vOne (o : Option Addr) (k : Nat) (w : World) : Calls Tryd.prog 34 #[.slice o 0 k] w fun e w' => e = .returned (.tuple #[]) ∧ w' = w := by
  go_enter Tryd.func34, Tryd.ntmps34
  go_wp2_with fail
  refine (vNeedY _ _).mono ?_
  rintro e u ⟨rfl, hu⟩
  obtain rfl := hu.symm
  go_wp2_with fail
  go_loopw [10] (fun t wr => t = .int .i64 0 ∧ wr = w) (fun _ _ => 0)
  case atStart => exact ⟨rfl, rfl⟩
  case round =>
    obtain ⟨rfl, hwr⟩ := hrel
    obtain rfl := hwr.symm
    go_wp2
    go_end0
    exact ⟨rfl, rfl⟩
set_option maxRecDepth 100000 in
set_option maxHeartbeats 4000000 in
theorem vLimits (o0 o1 o2 o3 o4 o5 o6 o7 o8 o9 : Option Addr) (k0 k1 k2 k3 k4 k5 k6 k7 k8 k9 : Nat) (w : World) : Calls Tryd.prog 15 #[.agg #[.slice o0 1 k0, .slice o1 0 k1, .slice o2 1 k2, .slice o3 0 k3, .slice o4 0 k4, .slice o5 0 k5, .slice o6 0 k6, .slice o7 0 k7, .slice o8 0 k8, .slice o9 0 k9]] w fun e w' => e = .returned (.tuple #[]) ∧ Below w.heap.size w w' := by
  have HB := hideR (fun o => new_on' w o)
  go_enter Tryd.func15, Tryd.ntmps15
  go_wp2_with fail
  refine (vOne _ _ _).mono ?_
  rintro e u ⟨rfl, hu⟩
  obtain rfl := hu.symm
  go_wp2_with fail
  refine (vOne _ _ _).mono ?_
  rintro e u ⟨rfl, hu⟩
  obtain rfl := hu.symm
  go_wp2_with fail
  go_loopw [13] (fun t wr => t = .int .i64 0 ∧ Hid (Below w.heap.size w wr)) (fun _ _ => 0)
  case atStart => exact ⟨rfl, hideR (HB.out _)⟩
  case round =>
    obtain ⟨rfl, HR⟩ := hrel
    go_wp2
    go_end0
    exact ⟨rfl, HR.out⟩
end Go.Proofs.YtlpnoelolkbmmaaDoor
