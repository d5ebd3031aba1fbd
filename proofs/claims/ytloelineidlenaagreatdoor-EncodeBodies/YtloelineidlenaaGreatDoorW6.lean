/- The program's looks at what an instruction has beside its byte, and at a block's result. -/
import Derived.Test.YtloelineidlenaaGreatDoorW4
namespace Go.Proofs.YtloelineidlenaaGreatDoor
open Go.RowKit Rep
set_option linter.unusedVariables false
namespace Rep
def bare (a b n : Int) (nl nb ne : Nat) : Bool := decide (a = 0 ∧ b = 0 ∧ n = 0 ∧ nl = 0 ∧ nb = 0 ∧ ne = 0)
def res (a : Int) : Bool := decide (a = 0) || typ a
end Rep
theorem Needs.yes {k : Int} {e : Ending} (h : Needs true k e) : e = .returned (.tuple #[]) := by rcases h with ⟨_, h⟩ | ⟨h, _⟩; exact h; cases h
theorem Needs.no {k : Int} {e : Ending} (h : Needs false k e) : e = .panicked (gave k) := by rcases h with ⟨h, _⟩ | ⟨_, h⟩; cases h; exact h

set_option maxHeartbeats 1000000 in
theorem pneedResult (a : Int) (w : World) : Calls Tryz.prog 84 #[.int .i64 a] w fun e w' => Needs (res a) 30 e ∧ Below w.heap.size w w' := by
  by_cases h : a = 0
  · have hr : res a = true := by simp [res, h]
    rw [hr]
    have d1 : (a != 0) = false := by simp [h]
    clear h hr
    go_enter Tryz.func84, Tryz.ntmps84
    go_wp2
    go_end0
    exact ⟨.inl ⟨rfl, rfl⟩, Below.refl _ _⟩
  · have hr : res a = typ a := by simp [res, h]
    rw [hr]
    have d1 : (a != 0) = true := by simp [h]
    clear h hr
    generalize ht : typ a = t
    have HT := hideM ht
    clear ht
    go_enter Tryz.func84, Tryz.ntmps84
    go_wp2_with fail
    refine (pneedTypes _ [a] _ (ints_new _ _ _ _ _ (by simp) (by show 1 ≤ _; omega))).mono ?_
    rintro e u ⟨hN, rfl⟩
    have hl : [a].all typ = t := by rw [← HT.out]; simp
    rw [hl] at hN
    clear hl
    rcases hN with ⟨rfl, rfl⟩ | ⟨rfl, rfl⟩
    · go_wp2
      go_end0
      exact ⟨.inl ⟨rfl, rfl⟩, (Below.refl _ w).alloc (Nat.le_refl _) _⟩
    · go_wp2
      exact ⟨rfl, .inr ⟨rfl, rfl⟩, (Below.refl _ w).alloc (Nat.le_refl _) _⟩

set_option maxHeartbeats 2000000 in
theorem pneedBare (op a b n : Int) (lo bo eo : Option Addr) (nl nb ne lc bc ec : Nat) (w : World) :
    Calls Tryz.prog 85 #[.agg #[.int .i64 op, .int .i64 a, .int .i64 b, .int .i64 n, .slice lo nl lc, .slice bo nb bc, .slice eo ne ec]] w fun e w' => Needs (bare a b n nl nb ne) 30 e ∧ Below w.heap.size w w' := by
  by_cases g0 : a = 0
  · have d0 : (a == 0) = true := by simp [g0]
    by_cases g1 : b = 0
    · have d1 : (b == 0) = true := by simp [g1]
      by_cases g2 : n = 0
      · have d2 : (n == 0) = true := by simp [g2]
        by_cases g3 : nl = 0
        · have d3 : ((nl : Int) == 0) = true := by simp [g3]
          by_cases g4 : nb = 0
          · have d4 : ((nb : Int) == 0) = true := by simp [g4]
            by_cases g5 : ne = 0
            · have d5 : ((ne : Int) == 0) = true := by simp [g5]
              have hr : bare a b n nl nb ne = true := by simp [bare, g0, g1, g2, g3, g4, g5]
              rw [hr]
              clear hr g0 g1 g2 g3 g4 g5
              go_enter Tryz.func85, Tryz.ntmps85
              go_wp2_with fail
              refine (pNeed true _ _).mono ?_
              rintro e u ⟨hN, rfl⟩
              obtain rfl := hN.yes
              go_wp2_with fail
              refine (pNeed true _ _).mono ?_
              rintro e u ⟨⟨_, rfl⟩ | ⟨hf, _⟩, rfl⟩
              · go_wp2
                go_end0
                exact ⟨.inl ⟨rfl, rfl⟩, (Below.refl _ w).alloc (Nat.le_refl _) _⟩
              · cases hf
            · have d5 : ((ne : Int) == 0) = false := by simp [g5]
              have hr : bare a b n nl nb ne = false := by simp [bare, g5]
              rw [hr]
              clear hr g0 g1 g2 g3 g4 g5
              go_enter Tryz.func85, Tryz.ntmps85
              go_wp2_with fail
              refine (pNeed true _ _).mono ?_
              rintro e u ⟨hN, rfl⟩
              obtain rfl := hN.yes
              go_wp2_with fail
              refine (pNeed false _ _).mono ?_
              rintro e u ⟨⟨hf, _⟩ | ⟨_, rfl⟩, rfl⟩
              · cases hf
              · go_wp2
                exact ⟨rfl, .inr ⟨rfl, rfl⟩, (Below.refl _ w).alloc (Nat.le_refl _) _⟩
          · have d4 : ((nb : Int) == 0) = false := by simp [g4]
            have hr : bare a b n nl nb ne = false := by simp [bare, g4]
            rw [hr]
            clear hr g0 g1 g2 g3 g4
            go_enter Tryz.func85, Tryz.ntmps85
            go_wp2_with fail
            refine (pNeed true _ _).mono ?_
            rintro e u ⟨hN, rfl⟩
            obtain rfl := hN.yes
            go_wp2_with fail
            refine (pNeed false _ _).mono ?_
            rintro e u ⟨⟨hf, _⟩ | ⟨_, rfl⟩, rfl⟩
            · cases hf
            · go_wp2
              exact ⟨rfl, .inr ⟨rfl, rfl⟩, (Below.refl _ w).alloc (Nat.le_refl _) _⟩
        · have d3 : ((nl : Int) == 0) = false := by simp [g3]
          have hr : bare a b n nl nb ne = false := by simp [bare, g3]
          rw [hr]
          clear hr g0 g1 g2 g3
          go_enter Tryz.func85, Tryz.ntmps85
          go_wp2_with fail
          refine (pNeed true _ _).mono ?_
          rintro e u ⟨hN, rfl⟩
          obtain rfl := hN.yes
          go_wp2_with fail
          refine (pNeed false _ _).mono ?_
          rintro e u ⟨⟨hf, _⟩ | ⟨_, rfl⟩, rfl⟩
          · cases hf
          · go_wp2
            exact ⟨rfl, .inr ⟨rfl, rfl⟩, (Below.refl _ w).alloc (Nat.le_refl _) _⟩
      · have d2 : (n == 0) = false := by simp [g2]
        have hr : bare a b n nl nb ne = false := by simp [bare, g2]
        rw [hr]
        clear hr g0 g1 g2
        go_enter Tryz.func85, Tryz.ntmps85
        go_wp2_with fail
        refine (pNeed false _ _).mono ?_
        rintro e u ⟨⟨hf, _⟩ | ⟨_, rfl⟩, rfl⟩
        · cases hf
        · go_wp2
          exact ⟨rfl, .inr ⟨rfl, rfl⟩, (Below.refl _ w).alloc (Nat.le_refl _) _⟩
    · have d1 : (b == 0) = false := by simp [g1]
      have hr : bare a b n nl nb ne = false := by simp [bare, g1]
      rw [hr]
      clear hr g0 g1
      go_enter Tryz.func85, Tryz.ntmps85
      go_wp2_with fail
      refine (pNeed false _ _).mono ?_
      rintro e u ⟨⟨hf, _⟩ | ⟨_, rfl⟩, rfl⟩
      · cases hf
      · go_wp2
        exact ⟨rfl, .inr ⟨rfl, rfl⟩, (Below.refl _ w).alloc (Nat.le_refl _) _⟩
  · have d0 : (a == 0) = false := by simp [g0]
    have hr : bare a b n nl nb ne = false := by simp [bare, g0]
    rw [hr]
    clear hr g0
    go_enter Tryz.func85, Tryz.ntmps85
    go_wp2_with fail
    refine (pNeed false _ _).mono ?_
    rintro e u ⟨⟨hf, _⟩ | ⟨_, rfl⟩, rfl⟩
    · cases hf
    · go_wp2
      exact ⟨rfl, .inr ⟨rfl, rfl⟩, (Below.refl _ w).alloc (Nat.le_refl _) _⟩

end Go.Proofs.YtloelineidlenaaGreatDoor
