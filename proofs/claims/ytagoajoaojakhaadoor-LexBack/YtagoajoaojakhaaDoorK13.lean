/- A region whose order is drawn, by what holds whatever has come up so far. -/
import Derived.Test.YtagoajoaojakhaaDoorK10g
import Derived.Orders
namespace Go.Proofs.YtagoajoaojakhaaDoor
open Go.RowKit Rep
set_option linter.unusedVariables false
theorem count_set {l : Array Bool} {i : Nat} (h : l.getD i true = false) : (l.setIfInBounds i true).toList.count false + 1 = l.toList.count false := by
  have hi : i < l.size := by
    rcases Nat.lt_or_ge i l.size with h' | h'
    · exact h'
    · simp [Array.getD, Nat.not_lt.2 h'] at h
  have he : l[i] = false := by simpa [Array.getD, hi] using h
  have hl : l.toList = l.toList.take i ++ false :: l.toList.drop (i + 1) := by
    rw [← he]
    have : i < l.toList.length := by simpa using hi
    conv => lhs; rw [← List.take_append_drop i l.toList, List.drop_eq_getElem_cons this]
    simp
  have hs : (l.setIfInBounds i true).toList = l.toList.take i ++ true :: l.toList.drop (i + 1) := by
    rw [Array.toList_setIfInBounds, List.set_eq_take_append_cons_drop, if_pos (by simpa using hi)]
  have e1 := congrArg (List.count false) hl
  have e2 := congrArg (List.count false) hs
  rw [List.count_append, List.count_cons_self] at e1
  rw [List.count_append, List.count_cons_of_ne (by simp)] at e2
  omega
/-- whatever order is picked: what holds of all that has come up so far is kept by whichever comes up -/
theorem wpAny_inv {P : Program} {md : Region.Mode} {ops : Array Oper} {Q : Exit → Act → World → Prop} (Inv : Array Bool → Act → World → Prop)
    (hstep : ∀ listed i a w, i ∈ Region.ready md ops listed → Inv listed a w → wpOp P ops Q i (Inv (listed.setIfInBounds i true)) a w)
    (hdone : ∀ listed a w, Region.ready md ops listed = [] → Inv listed a w → Q .normal a w) :
    ∀ (fuel : Nat) (listed : Array Bool) (a : Act) (w : World), listed.toList.count false ≤ fuel → Inv listed a w → wpAny P md ops Q fuel listed a w := by
  intro fuel
  induction fuel with
  | zero =>
    intro listed a w hc hI
    have hr : Region.ready md ops listed = [] := by
      cases hrr : Region.ready md ops listed with
      | nil => rfl
      | cons i r =>
        have hm : i ∈ Region.ready md ops listed := by rw [hrr]; simp
        have := count_set (mem_ready.1 hm).1
        omega
    exact ⟨hr, hdone _ _ _ hr hI⟩
  | succ fuel ih =>
    intro listed a w hc hI
    refine ⟨fun hr => hdone _ _ _ hr hI, fun i hi => ?_⟩
    refine wpOp_mono (fun a' w' h => ih _ a' w' ?_ h) (hstep listed i a w hi hI)
    have := count_set (mem_ready.1 hi).1
    omega
theorem wp_region_inv {P : Program} {ops : Array Oper} {Q : Exit → Act → World → Prop} {id : Nat} {a : Act} {w : World} (Inv : Array Bool → Act → World → Prop) (hm : P.follows .mixedOrders = true)
    (hstep : ∀ listed i a w, i ∈ Region.ready .any ops listed → Inv listed a w → wpOp P ops Q i (Inv (listed.setIfInBounds i true)) a w)
    (hdone : ∀ listed a w, Region.ready .any ops listed = [] → Inv listed a w → Q .normal a w)
    (h0 : Inv (Array.replicate ops.size false) a { w with drawn := w.drawn + 1 }) : (Code.region id ops true).wp P Q a w :=
  wp_region_any hm (wpAny_inv Inv hstep hdone _ _ _ _ (by simp) h0)
end Go.Proofs.YtagoajoaojakhaaDoor
