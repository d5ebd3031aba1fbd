/- Regions all of whose operations read or make new memory, some of them guarded. -/
import Derived.Test.YtagoajoaojakhaaDoorC0
namespace Go.Proofs.YtagoajoaojakhaaDoor
open Go.RowKit Rep
set_option linter.unusedVariables false
namespace Reg
def lowOk (ops : Array Oper) (n : Nat) : Bool := decide (ops.size = n) && (List.range ops.size).all (fun i => (depsAt ops i).all (fun j => decide (j < i)))
def dstOkG (ops : Array Oper) (n : Nat) (dst : Nat → Nat) (size : Nat) : Bool :=
  (List.range n).all fun i => match ops[i]? with
    | some o => o.dst == some (dst i) && decide (dst i < size)
    | none => false
theorem dst_okG {ops : Array Oper} {n : Nat} {dst : Nat → Nat} {size : Nat} (h : dstOkG ops n dst size = true) : ∀ i, i < n → ∃ o, ops[i]? = some o ∧ o.dst = some (dst i) ∧ dst i < size := fun i hi => by
  unfold dstOkG at h
  have := (List.all_eq_true.1 h) i (List.mem_range.2 hi)
  cases ho : ops[i]? with
  | none => rw [ho] at this; cases this
  | some o =>
    rw [ho] at this
    simp only [Bool.and_eq_true, beq_iff_eq, decide_eq_true_eq] at this
    exact ⟨o, rfl, this.1, this.2⟩
theorem get_of_eval {a : Act} {k : Nat} {b : Bool} (h : a.eval (.tmp k) = .bool b) : a.tmps[k]? = some (.bool b) := by
  have h' := ev_get h
  cases hk : a.tmps[k]? with
  | none => rw [hk] at h'; exact absurd h' (by simp [undef])
  | some v => rw [hk] at h'; exact congrArg some h'
/-- what a guard says -/
theorem wants {ops : Array Oper} {o oj : Oper} {a : Act} {j k : Nat} {b want : Bool} (hg : o.guard = some (j, want)) (hj : ops[j]? = some oj) (hd : oj.dst = some k) (h : a.eval (.tmp k) = .bool b) : Region.wanted o (yielded ops a.tmps) = (b == want) := by
  have hy : yielded ops a.tmps j = some b := by
    unfold yielded
    rw [hj]
    have : ((some oj).bind (·.dst)).bind (a.tmps[·]?) = some (.bool b) := by
      show (oj.dst).bind (a.tmps[·]?) = _
      rw [hd]; exact get_of_eval h
    rw [this]
  unfold Region.wanted
  rw [hg]
  show (yielded ops a.tmps j == some want) = _
  rw [hy]
  cases b <;> cases want <;> rfl
section
variable {P : Program} {ops : Array Oper} {Q : Exit → Act → World → Prop} {id : Nat} {a0 : Act} {w0 : World}
/-- what one operation does: it is wanted and tells its fact, or is passed over -/
def Does (P : Program) (ops : Array Oper) (Q : Exit → Act → World → Prop) (p : Value → World → Prop) (o : Oper) (a : Act) (w : World) : Prop :=
  (Region.wanted o (yielded ops a.tmps) = true ∧ o.wp P a w (fun a' w' => ∃ v, a' = a.put o.dst v ∧ Below w.heap.size w w' ∧ p v w') Q) ∨ (Region.wanted o (yielded ops a.tmps) = false ∧ p undef w)
theorem Does.go {p : Value → World → Prop} {o : Oper} {a : Act} {w : World} (hg : o.guard = none) (h : o.wp P a w (fun a' w' => ∃ v, a' = a.put o.dst v ∧ Below w.heap.size w w' ∧ p v w') Q) : Does P ops Q p o a w := .inl ⟨by simp [Region.wanted, hg], h⟩
theorem Does.wanted {p : Value → World → Prop} {o oj : Oper} {a : Act} {w : World} {j k : Nat} {b : Bool} (hg : o.guard = some (j, b)) (hj : ops[j]? = some oj) (hd : oj.dst = some k) (hb : a.eval (.tmp k) = .bool b) (h : o.wp P a w (fun a' w' => ∃ v, a' = a.put o.dst v ∧ Below w.heap.size w w' ∧ p v w') Q) : Does P ops Q p o a w :=
  .inl ⟨by rw [wants hg hj hd hb]; cases b <;> rfl, h⟩
theorem Does.skip {p : Value → World → Prop} {o oj : Oper} {a : Act} {w : World} {j k : Nat} {b : Bool} (hg : o.guard = some (j, b)) (hj : ops[j]? = some oj) (hd : oj.dst = some k) (hb : a.eval (.tmp k) = .bool (!b)) (h : p undef w) : Does P ops Q p o a w :=
  .inr ⟨by rw [wants hg hj hd hb]; cases b <;> rfl, h⟩
theorem Does.op {p : Value → World → Prop} {o : Oper} {a : Act} {w : World} {K : Act → World → Prop} (h : Does P ops Q p o a w) (hK : ∀ v w', Below w.heap.size w w' → p v w' → K (a.put o.dst v) w') :
    if Region.wanted o (yielded ops a.tmps) then o.wp P a w K Q ∨ (o.asks P a w ∧ LetsOut Q) else K (a.put o.dst undef) w := by
  rcases h with ⟨hw, h⟩ | ⟨hw, h⟩
  · rw [if_pos hw]
    exact .inl (Oper.wp_mono (fun a' w' ⟨v, ha, hb, hp⟩ => by subst ha; exact hK v w' hb hp) h)
  · rw [if_neg (by rw [hw]; simp)]
    exact hK undef w (Below.refl _ _) h
theorem wp_region_all (n : Nat) (dst : Nat → Nat) (G : Nat → Value → World → Prop) (hm : P.follows .mixedOrders = true) (hT : lowOk ops n = true)
    (hinj : ∀ i j, i < n → j < n → dst i = dst j → i = j)
    (hdst : ∀ i, i < n → ∃ o, ops[i]? = some o ∧ o.dst = some (dst i) ∧ dst i < a0.tmps.size)
    (hstab : ∀ i v w w', i < n → G i v w → Below w.heap.size w w' → G i v w')
    (hstep : ∀ i o a w, i < n → ops[i]? = some o → Fr a0 dst n a → Below w0.heap.size w0 w → (∀ j ∈ deps o, G j (a.eval (.tmp (dst j))) w) → Does P ops Q (G i) o a w)
    (hend : ∀ a w, Fr a0 dst n a → Below w0.heap.size w0 w → (∀ i, i < n → G i (a.eval (.tmp (dst i))) w) → Q .normal a w) :
    (Code.region id ops true).wp P Q a0 w0 := by
  unfold lowOk at hT
  rw [Bool.and_eq_true, decide_eq_true_eq, List.all_eq_true] at hT
  obtain ⟨hn, hT⟩ := hT
  have hlow : ∀ i, i < ops.size → ∀ j ∈ depsAt ops i, j < i := fun i hi j hj => of_decide_eq_true ((List.all_eq_true.1 (hT i (List.mem_range.2 hi))) j hj)
  refine wp_region_inv (fun L a w => L.size = ops.size ∧ Fr a0 dst n a ∧ Below w0.heap.size w0 w ∧ ∀ i, i < n → L.getD i false = true → G i (a.eval (.tmp (dst i))) w) hm ?_ ?_ ?_
  · rintro L i a w hi ⟨hsz, hF, hB, hG⟩
    obtain ⟨hLi, o, ho, hd⟩ := ready_deps hi
    obtain ⟨hiL, hLf⟩ := getD_false hLi
    have hin : i < n := by omega
    obtain ⟨o', ho', hod, hos⟩ := hdst i hin
    have : o' = o := by rw [ho] at ho'; exact (Option.some.inj ho').symm
    subst this
    have hs := hstep i o' a w hin ho hF hB (fun j hj => hG j (by have := hlow i (by omega) j (by rw [depsAt_some ho]; exact hj); omega) (hd j hj))
    unfold wpOp
    rw [ho]
    refine hs.op fun v w' hBw hGv => ?_
    have hos' : dst i < a.tmps.size := by rw [hF.size]; exact hos
    refine ⟨by rw [Array.size_setIfInBounds, hsz], by rw [hod]; exact hF.put hin v, hB.trans (hBw.mono hB.size), fun j hj hLj => ?_⟩
    rw [hod]
    by_cases he : j = i
    · subst he; rw [put_eval_same v hos']; exact hGv
    · rw [getD_set L i _ hiL, if_neg he] at hLj
      rw [put_eval_ne v (fun e => he (hinj i j hin hj e).symm)]
      exact hstab j _ w w' hj (hG j hj hLj) hBw
  · rintro L a w hr ⟨hsz, hF, hB, hG⟩
    refine hend a w hF hB fun i hi => hG i hi ?_
    have key : ∀ k, k < ops.size → L.getD k false = true := by
      intro k
      induction k using Nat.strongRecOn with
      | _ k ih =>
        intro hk
        cases hL : L.getD k false with
        | true => rfl
        | false =>
          obtain ⟨o, ho⟩ : ∃ o, ops[k]? = some o := ⟨_, Array.getElem?_eq_getElem hk⟩
          have hm : k ∈ Region.ready .any ops L := by
            refine ready_of ho ?_ fun j hj => ?_
            · have : k < L.size := by omega
              simp only [Array.getD, this] at hL ⊢
              exact hL
            · have hj' : j ∈ depsAt ops k := by rw [depsAt_some ho]; exact hj
              have := hlow k hk j hj'
              exact ih j this (by omega)
          rw [hr] at hm
          cases hm
    exact key i (by omega)
  · have hf : ∀ k, (Array.replicate ops.size false).getD k false = false := fun k => by
      simp [Array.getD]
    refine ⟨by simp, ⟨rfl, rfl, fun _ _ => rfl⟩, ⟨rfl, rfl, rfl, Nat.le_refl _, fun _ _ => rfl⟩, fun i _ hL => ?_⟩
    rw [hf] at hL; cases hL
/-- the same in a fixed order -/
theorem wp_region_allq (n : Nat) (dst : Nat → Nat) (G : Nat → Value → World → Prop) (hn : n ≤ ops.size)
    (hinj : ∀ i j, i < n → j < n → dst i = dst j → i = j)
    (hdst : ∀ i, i < n → ∃ o, ops[i]? = some o ∧ o.dst = some (dst i) ∧ dst i < a0.tmps.size)
    (hstab : ∀ i v w w', i < n → G i v w → Below w.heap.size w w' → G i v w')
    (hstep : ∀ i o a w, i < n → ops[i]? = some o → Fr a0 dst n a → Below w0.heap.size w0 w → (∀ j ∈ List.range i, G j (a.eval (.tmp (dst j))) w) → Does P ops Q (G i) o a w)
    (htail : ∀ a w, Fr a0 dst n a → Below w0.heap.size w0 w → (∀ i, i < n → G i (a.eval (.tmp (dst i))) w) → wpList P ops Q (ops.toList.drop n) a w) :
    (Code.region id ops false).wp P Q a0 w0 := by
  have key : ∀ r k, k + r = n → ∀ a w, Fr a0 dst n a → Below w0.heap.size w0 w → (∀ j, j < k → G j (a.eval (.tmp (dst j))) w) → wpList P ops Q (ops.toList.drop k) a w := by
    intro r
    induction r with
    | zero =>
      intro k hk a w hF hB hG
      obtain rfl : k = n := by omega
      exact htail a w hF hB hG
    | succ r ih =>
      intro k hk a w hF hB hG
      have hkn : k < n := by omega
      obtain ⟨o, ho, hod, hos⟩ := hdst k hkn
      have hks : k < ops.size := by omega
      have hcons : ops.toList.drop k = o :: ops.toList.drop (k + 1) := by
        rw [List.drop_eq_getElem_cons (by simpa using hks)]
        congr 1
        have := Array.getElem?_eq_getElem hks
        rw [ho] at this
        simpa using (Option.some.inj this).symm
      rw [hcons]
      unfold wpList
      refine (hstep k o a w hkn ho hF hB fun j hj => hG j (List.mem_range.1 hj)).op fun v w' hBw hGv => ?_
      have hos' : dst k < a.tmps.size := by rw [hF.size]; exact hos
      refine ih (k + 1) (by omega) _ w' (by rw [hod]; exact hF.put hkn v) (hB.trans (hBw.mono hB.size)) fun j hj => ?_
      rw [hod]
      by_cases he : j = k
      · subst he; rw [put_eval_same v hos']; exact hGv
      · rw [put_eval_ne v (fun e => he (hinj k j hkn (by omega) e).symm)]
        exact hstab j _ w w' (by omega) (hG j (by omega)) hBw
  refine wp_region_list ?_
  have := key n 0 (by omega) a0 w0 ⟨rfl, rfl, fun _ _ => rfl⟩ (Below.refl _ _) (fun j hj => absurd hj (by omega))
  rwa [List.drop_zero] at this
end
end Reg
end Go.Proofs.YtagoajoaojakhaaDoor
