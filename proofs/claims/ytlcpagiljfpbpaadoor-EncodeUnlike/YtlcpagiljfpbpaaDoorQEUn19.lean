/- Texts that the claim needs. -/
import Derived.Test.YtlcpagiljfpbpaaDoorQEUn7
namespace Go.Proofs.YtlcpagiljfpbpaaDoor
open Go.RowKit Rep
set_option linter.unusedVariables false
namespace Reg
def midOk (ops:Array Oper) (n:Nat) (pure:Nat->Bool):Bool :=
 decide (n+1<ops.size) && (List.range ops.size).all (fun i=>(depsAt ops i).all (fun j=>decide (j<i)) && (decide (i<n) || (List.range i).all (fun j=>(clos ops [i] i).contains j || (decide (i=n) && pure j)))) && (List.range n).all (fun i=>!pure i || (depsAt ops i).isEmpty)
section
variable {P:Program} {ops:Array Oper} {Q:Exit->Act->World->Prop} {id:Nat} {a0:Act} {w0:World}
theorem wp_region_mid (n : Nat) (dst : Nat → Nat) (pure : Nat → Bool) (G : Nat → Value → World → Prop) (H : Value → World → Prop) (hm : P.follows .mixedOrders = true) (hT : midOk ops n pure = true)
    (hinj : ∀ i j, i < n + 1 → j < n + 1 → dst i = dst j → i = j)
    (hdst : ∀ i, i < n + 1 → ∃ o, ops[i]? = some o ∧ o.dst = some (dst i) ∧ o.guard = none ∧ dst i < a0.tmps.size)
    (hstab : ∀ i v w w', i < n → G i v w → Below w.heap.size w w' → G i v w')
    (hpure : ∀ i v w w', i < n → pure i = true → G i v w → G i v w')
    (hstep : ∀ i o a w, i < n → ops[i]? = some o → Fr a0 dst (n + 1) a → Below w0.heap.size w0 w → (∀ j ∈ deps o, G j (a.eval (.tmp (dst j))) w) → o.wp P a w (fun a' w' => ∃ v, a' = a.put o.dst v ∧ Below w.heap.size w w' ∧ G i v w') Q)
    (hstepP : ∀ i o a w, i < n → pure i = true → ops[i]? = some o → Fr a0 dst (n + 1) a → o.wp P a w (fun a' w' => ∃ v, a' = a.put o.dst v ∧ w' = w ∧ G i v w') Q)
    (happ : ∀ o a w, ops[n]? = some o → Fr a0 dst (n + 1) a → Below w0.heap.size w0 w → (∀ j, j < n → pure j = false → G j (a.eval (.tmp (dst j))) w) → o.wp P a w (fun a' w' => ∃ v, a' = a.put o.dst v ∧ H v w') Q)
    (htail : ∀ a w, Fr a0 dst (n + 1) a → (∀ i, i < n → pure i = true → G i (a.eval (.tmp (dst i))) w) → H (a.eval (.tmp (dst n))) w → wpList P ops Q (ops.toList.drop (n + 1)) a w) :
    (Code.region id ops true).wp P Q a0 w0 := by
  unfold midOk at hT
  rw [Bool.and_eq_true, Bool.and_eq_true, List.all_eq_true, List.all_eq_true, decide_eq_true_eq] at hT
  obtain ⟨⟨hn, hT2⟩, hT3⟩ := hT
  have hlow : ∀ i, i < ops.size → ∀ j ∈ depsAt ops i, j < i := fun i hi j hj => by
    have := hT2 i (List.mem_range.2 hi)
    rw [Bool.and_eq_true, List.all_eq_true] at this
    exact of_decide_eq_true (this.1 j hj)
  have hbig : ∀ (L : Array Bool) i, n ≤ i → i < ops.size → Closed ops L → (∀ j ∈ depsAt ops i, L.getD j false = true) → ∀ j, j < i → (i = n → pure j = false) → L.getD j false = true := fun L i hi hs hc hd j hj hp => by
    have := hT2 i (List.mem_range.2 hs)
    rw [Bool.and_eq_true, Bool.or_eq_true, decide_eq_true_eq] at this
    rcases this.2 with h | h
    · omega
    · have h2 := (List.all_eq_true.1 h) j (List.mem_range.2 hj)
      rw [Bool.or_eq_true] at h2
      rcases h2 with h2 | h2
      · have hjm : j ∈ clos ops [i] i := by simpa using h2
        rcases clos_mem hc hd i [i] (fun m hm => .inl (List.mem_singleton.1 hm)) j hjm with h | h
        · omega
        · exact h
      · rw [Bool.and_eq_true, decide_eq_true_eq] at h2
        rw [hp h2.1] at h2
        cases h2.2
  refine wp_region_inv (fun L a w => L.size = ops.size ∧ Closed ops L ∧
      (((∀ k, n ≤ k → L.getD k false = false) ∧ Fr a0 dst (n + 1) a ∧ Below w0.heap.size w0 w ∧ ∀ i, i < n → L.getD i false = true → G i (a.eval (.tmp (dst i))) w) ∨
       (L.getD n false = true ∧ (∀ k, n < k → L.getD k false = false) ∧ (∀ j, j < n → pure j = false → L.getD j false = true) ∧ Fr a0 dst (n + 1) a ∧ (∀ i, i < n → pure i = true → L.getD i false = true → G i (a.eval (.tmp (dst i))) w) ∧ H (a.eval (.tmp (dst n))) w) ∨
       Behind P ops Q (n + 1) L a w)) hm ?_ ?_ ?_
  · rintro L i a w hi ⟨hsz, hc, hph⟩
    obtain ⟨hLi, o, ho, hd⟩ := ready_deps hi
    obtain ⟨hiL, hLf⟩ := getD_false hLi
    have hd' : ∀ j ∈ depsAt ops i, L.getD j false = true := by rw [depsAt_some ho]; exact hd
    have hsz' : (L.setIfInBounds i true).size = ops.size := by rw [Array.size_setIfInBounds, hsz]
    have hc' : Closed ops (L.setIfInBounds i true) := fun m hm j hj => by
      rw [getD_set L i _ hiL] at hm ⊢
      split
      · rfl
      · by_cases he : m = i
        · subst he; exact hd' j hj
        · rw [if_neg he] at hm; exact hc m hm j hj
    have onBehind : ∀ k, k = i → n + 1 ≤ k → (∀ j, j < k → L.getD j false = true) → (∀ j, k ≤ j → L.getD j false = false) → wpList P ops Q (ops.toList.drop k) a w → wpOp P ops Q i (fun a w => (L.setIfInBounds i true).size = ops.size ∧ Closed ops (L.setIfInBounds i true) ∧
      (((∀ k, n ≤ k → (L.setIfInBounds i true).getD k false = false) ∧ Fr a0 dst (n + 1) a ∧ Below w0.heap.size w0 w ∧ ∀ j, j < n → (L.setIfInBounds i true).getD j false = true → G j (a.eval (.tmp (dst j))) w) ∨
       ((L.setIfInBounds i true).getD n false = true ∧ (∀ k, n < k → (L.setIfInBounds i true).getD k false = false) ∧ (∀ j, j < n → pure j = false → (L.setIfInBounds i true).getD j false = true) ∧ Fr a0 dst (n + 1) a ∧ (∀ j, j < n → pure j = true → (L.setIfInBounds i true).getD j false = true → G j (a.eval (.tmp (dst j))) w) ∧ H (a.eval (.tmp (dst n))) w) ∨
       Behind P ops Q (n + 1) (L.setIfInBounds i true) a w)) a w := by
      rintro k rfl hnk hk1 hk2 hwp
      have hks : k < ops.size := by omega
      have hcons : ops.toList.drop k = o :: ops.toList.drop (k + 1) := by
        rw [List.drop_eq_getElem_cons (by simpa using hks)]
        congr 1
        have := Array.getElem?_eq_getElem hks
        rw [ho] at this
        simpa using (Option.some.inj this).symm
      rw [hcons] at hwp
      have up : ∀ a w, wpList P ops Q (ops.toList.drop (k + 1)) a w → Behind P ops Q (n + 1) (L.setIfInBounds k true) a w := fun a w h =>
        ⟨k + 1, by omega, fun j hj => by
          rw [getD_set L k _ hiL]
          split
          · rfl
          · exact hk1 j (by omega), fun j hj => by
          rw [getD_set L k _ hiL, if_neg (by omega)]
          exact hk2 j (by omega), h⟩
      unfold wpOp
      rw [ho]
      unfold wpList at hwp
      show ite _ _ _
      split
      · rename_i hw
        rw [if_pos hw] at hwp
        exact hwp.imp (Oper.wp_mono fun a w h => ⟨hsz', hc', .inr (.inr (up a w h))⟩) (fun h => h)
      · rename_i hw
        rw [if_neg hw] at hwp
        exact ⟨hsz', hc', .inr (.inr (up _ _ hwp))⟩
    rcases hph with ⟨hk, hF, hB, hG⟩ | ⟨hLn, hk, hnp, hF, hG, hH⟩ | ⟨k, hnk, hk1, hk2, hwp⟩
    · rcases Nat.lt_trichotomy i n with hin | hin | hin
      · obtain ⟨o', ho', hod, hog, hos⟩ := hdst i (by omega)
        have : o' = o := by rw [ho] at ho'; exact (Option.some.inj ho').symm
        subst this
        have hs := hstep i o' a w hin ho hF hB (fun j hj => hG j (by have := hlow i (by omega) j (by rw [depsAt_some ho]; exact hj); omega) (hd j hj))
        unfold wpOp
        rw [ho]
        show ite _ _ _
        rw [if_pos (by simp [Region.wanted, hog])]
        refine .inl (Oper.wp_mono ?_ hs)
        rintro a' w' ⟨v, rfl, hBw, hGv⟩
        have hos' : dst i < a.tmps.size := by rw [hF.size]; exact hos
        refine ⟨hsz', hc', .inl ⟨fun k hnk => ?_, by rw [hod]; exact hF.put (by omega) v, ?_, fun j hj hLj => ?_⟩⟩
        · rw [getD_set L i _ hiL, if_neg (by omega)]; exact hk k hnk
        · exact hB.trans (hBw.mono hB.size)
        · rw [hod]
          by_cases he : j = i
          · subst he; rw [put_eval_same v hos']; exact hGv
          · rw [getD_set L i _ hiL, if_neg he] at hLj
            rw [put_eval_ne v (fun e => he (hinj i j (by omega) (by omega) e).symm)]
            exact hstab j _ w w' hj (hG j hj hLj) hBw
      · subst hin
        have h1 := hbig L i (Nat.le_refl _) (by omega) hc hd'
        obtain ⟨o', ho', hod, hog, hos⟩ := hdst i (by omega)
        have : o' = o := by rw [ho] at ho'; exact (Option.some.inj ho').symm
        subst this
        have hs := happ o' a w ho hF hB (fun j hj hp => hG j hj (h1 j hj (fun _ => hp)))
        have hGw : ∀ j, j < i → pure j = true → L.getD j false = true → ∀ w', G j (a.eval (.tmp (dst j))) w' := fun j hj hp hL w' => hpure j _ w w' hj hp (hG j hj hL)
        unfold wpOp
        rw [ho]
        show ite _ _ _
        rw [if_pos (by simp [Region.wanted, hog])]
        refine .inl (Oper.wp_mono ?_ hs)
        rintro a' w' ⟨v, rfl, hHv⟩
        have hos' : dst i < a.tmps.size := by rw [hF.size]; exact hos
        refine ⟨hsz', hc', .inr (.inl ⟨?_, fun k hnk => ?_, fun j hj hp => ?_, by rw [hod]; exact hF.put (by omega) v, fun j hj hp hLj => ?_, ?_⟩)⟩
        · rw [getD_set L i _ hiL, if_pos rfl]
        · rw [getD_set L i _ hiL, if_neg (by omega)]; exact hk k (by omega)
        · rw [getD_set L i _ hiL, if_neg (by omega)]; exact h1 j hj (fun _ => hp)
        · rw [getD_set L i _ hiL, if_neg (by omega)] at hLj
          rw [hod, put_eval_ne v (fun e => by have := hinj i j (by omega) (by omega) e; omega)]
          exact hGw j hj hp hLj w'
        · rw [hod, put_eval_same v hos']; exact hHv
      · have h1 := hbig L i (by omega) (by omega) hc hd' n hin (fun e => by omega)
        rw [hk n (Nat.le_refl _)] at h1; cases h1
    · rcases Nat.lt_trichotomy i n with hin | hin | hin
      · have hpi : pure i = true := by
          cases hpi : pure i with
          | true => rfl
          | false => rw [hnp i hin hpi] at hLf; cases hLf
        obtain ⟨o', ho', hod, hog, hos⟩ := hdst i (by omega)
        have : o' = o := by rw [ho] at ho'; exact (Option.some.inj ho').symm
        subst this
        unfold wpOp
        rw [ho]
        show ite _ _ _
        rw [if_pos (by simp [Region.wanted, hog])]
        refine .inl (Oper.wp_mono ?_ (hstepP i o' a w hin hpi ho hF))
        rintro a' w' ⟨v, rfl, rfl, hGv⟩
        have hos' : dst i < a.tmps.size := by rw [hF.size]; exact hos
        refine ⟨hsz', hc', .inr (.inl ⟨?_, fun k hnk => ?_, fun j hj hp => ?_, by rw [hod]; exact hF.put (by omega) v, fun j hj hp hLj => ?_, ?_⟩)⟩
        · rw [getD_set L i _ hiL, if_neg (by omega)]; exact hLn
        · rw [getD_set L i _ hiL, if_neg (by omega)]; exact hk k hnk
        · rw [getD_set L i _ hiL]
          split
          · rfl
          · exact hnp j hj hp
        · rw [hod]
          by_cases he : j = i
          · subst he; rw [put_eval_same v hos']; exact hGv
          · rw [getD_set L i _ hiL, if_neg he] at hLj
            rw [put_eval_ne v (fun e => he (hinj i j (by omega) (by omega) e).symm)]
            exact hG j hj hp hLj
        · rw [hod, put_eval_ne v (fun e => by have := hinj i n (by omega) (by omega) e; omega)]
          exact hH
      · subst hin; rw [hLn] at hLf; cases hLf
      · have h1 := hbig L i (by omega) (by omega) hc hd'
        have hin' : n + 1 = i := by
          rcases Nat.lt_or_ge (n + 1) i with h | h
          · have := h1 (n + 1) h (fun e => by omega); rw [hk (n + 1) (by omega)] at this; cases this
          · omega
        refine onBehind (n + 1) hin' (Nat.le_refl _) (fun j hj => h1 j (by omega) (fun e => by omega)) (fun j hj => hk j (by omega)) (htail a w hF (fun j hj hp => hG j hj hp (h1 j (by omega) (fun e => by omega))) hH)
    · rcases Nat.lt_or_ge i k with h | h
      · rw [hk1 i h] at hLf; cases hLf
      · have h1 := hbig L i (by omega) (by omega) hc hd'
        have : k = i := by
          rcases Nat.lt_or_ge k i with h' | h'
          · have := h1 k h' (fun e => by omega); rw [hk2 k (Nat.le_refl _)] at this; cases this
          · omega
        exact onBehind k this hnk hk1 hk2 hwp
  · rintro L a w hr ⟨hsz, hc, hph⟩
    have key : ∀ k, k < ops.size → L.getD k false = true := by
      intro k
      induction k using Nat.strongRecOn with
      | _ k ih =>
        intro hk
        cases hL : L.getD k false with
        | true => rfl
        | false =>
          obtain ⟨o, ho⟩ : ∃ o, ops[k]? = some o := ⟨_, Array.getElem?_eq_getElem hk⟩
          have hm : k ∈ Region.ready .any ops L := by
            refine ready_of ho ?_ fun j hj => ?_
            · have : k < L.size := by omega
              simp only [Array.getD, this] at hL ⊢
              exact hL
            · have hj' : j ∈ depsAt ops k := by rw [depsAt_some ho]; exact hj
              have := hlow k hk j hj'
              exact ih j this (by omega)
          rw [hr] at hm
          cases hm
    rcases hph with ⟨hk, _⟩ | ⟨_, hk, _⟩ | ⟨k, hnk, hk1, hk2, hwp⟩
    · have := key n (by omega)
      rw [hk n (Nat.le_refl _)] at this; cases this
    · have := key (n + 1) (by omega)
      rw [hk (n + 1) (by omega)] at this; cases this
    · have : ops.size ≤ k := by
        rcases Nat.lt_or_ge k ops.size with h | h
        · have := key k h
          rw [hk2 k (Nat.le_refl _)] at this; cases this
        · exact h
      rw [List.drop_eq_nil_of_le (by simpa using this)] at hwp
      exact hwp
  · have hf : ∀ k, (Array.replicate ops.size false).getD k false = false := fun k => by
      simp [Array.getD]
    refine ⟨by simp, fun i hi => ?_, .inl ⟨fun k _ => hf k, ⟨rfl, rfl, fun _ _ => rfl⟩, ⟨rfl, rfl, rfl, Nat.le_refl _, fun _ _ => rfl⟩, fun i _ hL => ?_⟩⟩
    · rw [hf] at hi; cases hi
    · rw [hf] at hL; cases hL
end
end Reg
end Go.Proofs.YtlcpagiljfpbpaaDoor

