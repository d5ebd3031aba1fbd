/- A region whose order is drawn and that holds two calls, the one behind the other: by halves. -/
import Derived.Test.YtagcdnkgochpnaaQ7
import Derived.Test.YtagcdnkgochpnaaE1c
namespace Go.Proofs.Ytagcdnkgochpnaa
open Go.RowKit Mm
set_option linter.unusedVariables false
namespace Mm
theorem Half.on0 {w0 : World} {k : Nat} {mv qv : Value} {f : FuncId} {ar : Array Value} {v : Value} {w w' : World} (h : Half w0 k mv qv f ar v w) (hb : Below w.heap.size w w') : Half w0 k mv qv f ar v w' := fun u hu => h u (bel_on hb hu)
theorem wp_half {α : Type} {w0 : World} {k : Nat} {mv qv : Value} {f1 f2 : FuncId} {ar1 ar2 : Array Value} {mk : α → Value} {x : Option Nat} {R : World → Prop} (hC : HalfC w0 k mv qv f1 f2 ar1 ar2 mk x R)
    {ops : Array Oper} {Q : Exit → Act → World → Prop} {id : Nat} {a0 : Act} {W : World} (n lo ci : Nat) (F : Nat → Value → Prop) (blk : Obj) (hW : W.heap[k]? = some blk) (hR : R W)
    (hm : Try.prog.follows .mixedOrders = true) (hT : Reg.tailOk ops n = true) (hdst : Reg.dstOkG ops n (fun i => lo + i) a0.tmps.size = true)
    (hstep : ∀ i o a w, i < n → i ≠ ci → ops[i]? = some o → Reg.Fr a0 (fun i => lo + i) n a → w.heap[k]? = some blk → (∀ j ∈ Reg.deps o, j ≠ ci → F j (a.eval (.tmp (lo + j)))) → Region.wanted o (yielded ops a.tmps) = true ∧ o.wp Try.prog a w (fun a' w' => ∃ v, a' = a.put o.dst v ∧ Below w.heap.size w w' ∧ F i v) Q)
    (hcall : ∀ o a w, ops[ci]? = some o → Reg.Fr a0 (fun i => lo + i) n a → (∀ j ∈ Reg.deps o, j ≠ ci → F j (a.eval (.tmp (lo + j)))) → R w → Region.wanted o (yielded ops a.tmps) = true ∧ o.wp Try.prog a w (fun a' w' => ∃ g, a' = a.put o.dst (mk g) ∧ w.grownBy w' x ∧ Half w0 k mv qv f2 ar2 (mk g) w') Q)
    (htail : ∀ a w g, Reg.Fr a0 (fun i => lo + i) n a → (ci < n → a.eval (.tmp (lo + ci)) = mk g) → Half w0 k mv qv f2 ar2 (mk g) w → (∀ i, i < n → i ≠ ci → F i (a.eval (.tmp (lo + i)))) → wpList Try.prog ops Q (ops.toList.drop n) a w) (hci : ci < n) :
    (Code.region id ops true).wp Try.prog Q a0 W := by
  have hkl : ∀ {w : World}, w.heap[k]? = some blk → k < w.heap.size := fun h => (Array.getElem?_eq_some_iff.1 h).1
  refine Reg.wp_region_effg n (fun i => lo + i) (fun i => if i = ci then x else none) (fun w => w.heap[k]? = some blk) (fun i w => i = ci → R w)
    (fun i v w => if i = ci then ∃ g, v = mk g ∧ Half w0 k mv qv f2 ar2 (mk g) w else F i v) hm hT (fun i j _ _ h => by have h' : lo + i = lo + j := h; omega) (Reg.dst_okG hdst) ?_ ?_ ?_ ?_ ?_ hW (fun i _ _ => hC.2.1 W _ hR ⟨rfl, rfl, rfl, Nat.le_refl _, fun _ _ => rfl⟩)
  · intro i j v w w' hi hj hij hK hG hg
    by_cases h1 : i = ci
    · rw [if_pos h1] at hG ⊢
      rw [if_neg (fun e => hij (h1.trans e.symm))] at hg
      obtain ⟨g, he, hh⟩ := hG
      exact ⟨g, he, hh.on0 (grown_none hg)⟩
    · rw [if_neg h1] at hG ⊢; exact hG
  · intro i j w w' hi hj hij hR hg h1
    rw [if_neg (fun e => hij (h1.trans e.symm))] at hg
    exact hC.2.1 w w' (hR h1) (grown_none hg)
  · intro j w w' hj hK hg
    rw [hg.block k (hkl hK) (by split; exact hC.1; simp)]; exact hK
  · intro i o a w hi ho hF hK hRi hd
    have hd' : ∀ j ∈ Reg.deps o, j ≠ ci → F j (a.eval (.tmp (lo + j))) := fun j hj hne => by have := hd j hj; rwa [if_neg hne] at this
    by_cases h1 : i = ci
    · obtain ⟨hw, hwp⟩ := hcall o a w (by rw [← h1]; exact ho) hF hd' (hRi h1)
      refine ⟨hw, Oper.wp_mono ?_ hwp⟩
      rintro a' w' ⟨g, ha, hg, hh⟩
      refine ⟨_, ha, ?_, ?_⟩
      · rw [if_pos h1]; exact hg
      · rw [if_pos h1]; exact ⟨g, rfl, hh⟩
    · obtain ⟨hw, hwp⟩ := hstep i o a w hi h1 ho hF hK hd'
      refine ⟨hw, Oper.wp_mono ?_ hwp⟩
      rintro a' w' ⟨v, ha, hb, hv⟩
      refine ⟨v, ha, ?_, ?_⟩
      · rw [if_neg h1]; exact none_grown hb
      · rw [if_neg h1]; exact hv
  · intro a w hF hK hG
    have hc := hG ci hci
    rw [if_pos rfl] at hc
    obtain ⟨g, he, hh⟩ := hc
    exact htail a w g hF (fun _ => he) hh (fun i hi hne => by have := hG i hi; rwa [if_neg hne] at this)
end Mm
end Go.Proofs.Ytagcdnkgochpnaa
