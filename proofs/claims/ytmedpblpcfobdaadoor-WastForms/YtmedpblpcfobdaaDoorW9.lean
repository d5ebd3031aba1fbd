/- The program's count of a module's instructions: what is given up with from within is caught at its door. -/
import Derived.Test.YtmedpblpcfobdaaDoorW8
import Derived.Defers
import Derived.Recover
import Derived.Laws.Pointers
namespace Go.Proofs.YtmedpblpcfobdaaDoor
open Go.RowKit Rep
set_option linter.unusedVariables false

theorem countCatch (p : Addr) (x : Int) (u : TypeId) (pv : Value) (older : List PanicEntry) (w : World) (hc : w.cell? p = some (.int .i64 x)) (hz : w.frozen? p = false) :
    CallsD Tryd.prog 44 #[.pointer (some p)] (.panicking ({ v := .iface u pv, recovered := false } :: older)) w fun e u' w' =>
      e = .returned (.tuple #[]) ∧ u' = .panicking ({ v := .iface u pv, recovered := true } :: older) ∧ w' = w.setCell p (.int .i64 65537) := by
  refine callsD_of_wpS Tryd.func44 rfl fun c₀ cs hu => ?_
  apply wpS_seq
  apply wpS_region
  simp [wpOpsS, go_sem, recoverD, hu, Tryd.ntmps44, Exit.thenS]
  refine wpS_cond (t := true) (by simp [Act.eval, Array.replicate]) ?_
  simp only [if_true]
  apply wpS_region
  simp [wpOpsS, go_sem, hc, hz, bodyPostS, results, Tryd.results44]

theorem countIdle (p : Addr) (w : World) :
    CallsD Tryd.prog 44 #[.pointer (some p)] .returning w fun e u' w' => e = .returned (.tuple #[]) ∧ u' = .returning ∧ w' = w := by
  refine callsD_of_wpS Tryd.func44 rfl fun c₀ cs hu => ?_
  apply wpS_seq
  apply wpS_region
  simp [wpOpsS, go_sem, recoverD, hu, Tryd.ntmps44, Exit.thenS]
  refine wpS_cond (t := false) (by simp [Act.eval, Array.replicate]) ?_
  simp only [Bool.false_eq_true, if_false]
  refine wpS_of_wp (wp_skip ?_)
  cases c₀
  simp_all [bodyPostS, results, Tryd.results44]

namespace Rep
/-- how many instructions a module has; 65537, if more than 65536 -/
def cntM (d : Nat) (l : List (Fun d)) : Nat := (goF stepCount d l 0).getD 65537
end Rep

set_option maxHeartbeats 1000000 in
theorem pCount (d : Nat) (hd : d ≤ 4611686018427387904) (v0 v1 v2 v3 v4 v5 v6 v7 v8 v9 : Value) (l : List (Fun d)) (w : World) (hAt : Row 3 (FunAt w d) v2 l) (hT : TenSlices v0 v1 v3 v4 v5 v6 v7 v8 v9) :
    Calls Tryd.prog 17 #[.agg #[v0, v1, v2, v3, v4, v5, v6, v7, v8, v9]] w fun e w' => e = .returned (.int .i64 (cntM d l : Nat)) ∧ Below w.heap.size w w' := by
  have HT := hideM hT
  have HCI := hideM fun (w' : World) (h : Below w.heap.size w w') => pcountInstructions d hd v0 v1 v2 v3 v4 v5 v6 v7 v8 v9 l w' (hAt.imp fun _ _ _ _ => FunAt.on h) hT
  obtain ⟨o2, n2, c2, rfl⟩ := Row.slice hAt
  obtain ⟨⟨o0, m0, c0, rfl⟩, ⟨o1, m1, c1, rfl⟩, ⟨o3, m3, c3, rfl⟩, ⟨o4, m4, c4, rfl⟩, ⟨o5, m5, c5, rfl⟩, ⟨o6, m6, c6, rfl⟩, ⟨o7, m7, c7, rfl⟩, ⟨o8, m8, c8, rfl⟩, ⟨o9, m9, c9, rfl⟩⟩ := hT
  obtain ⟨R, hR⟩ : ∃ R, R = goF stepCount d l 0 := ⟨_, rfl⟩
  have hM : cntM d l = R.getD 65537 := by rw [hR]; rfl
  have HR := hideM hR
  rw [hM]
  clear hAt hR hM
  have hmf : ∀ (fn : Fn) (first cap : Array Value) (w : World), (Instr.makeFunc fn first cap).run Tryd.prog w = .ok (.func fn first cap) w := fun _ _ _ _ => rfl
  go_enter_defers Tryd.func17, Tryd.ntmps17
  go_wp2_with fail
  have hbel : ∀ (o : Obj), Below w.heap.size w ((w.alloc o).alloc (.cells #[.int .i64 0] 3)) := fun o => ((Below.refl _ w).alloc (Nat.le_refl _) o).alloc (by simp) _
  refine (HCI.out _ (hbel _)).mono ?_
  rintro e u ⟨hb, hcase⟩
  rw [← HR.out] at hcase
  have hcu : u.cell? ⟨w.heap.size + 1, 0, none⟩ = some (.int .i64 0) := by
    rw [hb.cell (p := ⟨w.heap.size + 1, 0, none⟩) (by simp), World.cell?_alloc_at _ _ _ _ (by simp)]; rfl
  have hzu : u.frozen? ⟨w.heap.size + 1, 0, none⟩ = false := by
    rw [hb.frozen (p := ⟨w.heap.size + 1, 0, none⟩) (by simp), World.frozen?_alloc_at _ _ _ _ (by simp)]
  have HB := hideM (below_go (hbel _) hb)
  clear hb hbel HCI HT HR
  rcases hcase with ⟨c, rfl, hle, rfl⟩ | ⟨rfl, rfl⟩
  · go_wp2_with fail
    refine leaves_cons (f := 44) (args := #[.pointer (some ⟨w.heap.size + 1, 0, none⟩)]) (by simp) (by simp [go_sem]) ?_
    refine (countIdle ⟨w.heap.size + 1, 0, none⟩ _).mono ?_
    rintro e u' w'' ⟨rfl, rfl, rfl⟩
    simp [Leaves, settle, results, Tryd.results17, go_sem, hcu]
    exact below_set HB.out 0 _
  · go_wp2_with fail
    refine leaves_cons (f := 44) (args := #[.pointer (some ⟨w.heap.size + 1, 0, none⟩)]) (by simp) (by simp [go_sem]) ?_
    refine (countCatch ⟨w.heap.size + 1, 0, none⟩ 0 39 _ [] _ hcu hzu).mono ?_
    rintro e u' w'' ⟨rfl, rfl, rfl⟩
    simp [Leaves, settle, results, Tryd.results17, go_sem, hcu]
    exact below_set HB.out 0 _
end Go.Proofs.YtmedpblpcfobdaaDoor
