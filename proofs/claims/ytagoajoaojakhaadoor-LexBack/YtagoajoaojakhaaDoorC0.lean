/- A region whose order is drawn, whose last operations wait for all others: those ahead only make new memory, each tells a fact that lasts; the last ones are walked in their order. -/
import Derived.Test.YtagoajoaojakhaaDoorK13
namespace Go.Proofs.YtagoajoaojakhaaDoor
open Go.RowKit Rep
set_option linter.unusedVariables false
namespace Reg
/-- what an operation waits for -/
def deps (o : Oper) : List Nat := (o.after.toList.filter (fun e => Region.binds .any e)).map (·.on)
def depsAt (ops : Array Oper) (i : Nat) : List Nat := match ops[i]? with
  | some o => deps o
  | none => []
def clos (ops : Array Oper) : List Nat → Nat → List Nat
  | acc, 0 => acc
  | acc, i + 1 => clos ops (if acc.any (fun m => (depsAt ops m).contains i) then i :: acc else acc) i
/-- each operation from the n-th on waits, by way of others, for all ahead of it -/
def tailOk (ops : Array Oper) (n : Nat) : Bool :=
  decide (n < ops.size) && (List.range ops.size).all (fun i => (depsAt ops i).all (fun j => decide (j < i)) && (decide (i < n) || (List.range i).all (fun j => (clos ops [i] i).contains j)))
def Closed (ops : Array Oper) (L : Array Bool) : Prop := ∀ i, L.getD i false = true → ∀ j ∈ depsAt ops i, L.getD j false = true
theorem clos_mem {ops : Array Oper} {L : Array Bool} {k : Nat} (hc : Closed ops L) (hk : ∀ j ∈ depsAt ops k, L.getD j false = true) : ∀ (i : Nat) (acc : List Nat), (∀ m ∈ acc, m = k ∨ L.getD m false = true) → ∀ m ∈ clos ops acc i, m = k ∨ L.getD m false = true
  | 0, acc, h => h
  | i + 1, acc, h => by
    unfold clos
    refine clos_mem hc hk i _ ?_
    split
    · rename_i ha
      intro m hm
      rcases List.mem_cons.1 hm with rfl | hm
      · obtain ⟨q, hq, hqi⟩ := List.any_eq_true.1 ha
        have hqi' : m ∈ depsAt ops q := by simpa using hqi
        rcases h q hq with rfl | hL
        · exact .inr (hk _ hqi')
        · exact .inr (hc q hL _ hqi')
      · exact h m hm
    · exact h
theorem getD_set (L : Array Bool) (i j : Nat) (hi : i < L.size) : (L.setIfInBounds i true).getD j false = if j = i then true else L.getD j false := by
  by_cases h : j = i
  · subst h
    rw [if_pos rfl]
    simp [Array.getD, hi]
  · rw [if_neg h]
    simp only [Array.getD, Array.size_setIfInBounds]
    split
    · rename_i hj
      exact Array.getElem_setIfInBounds_ne (xs := L) hj (fun e => h e.symm)
    · rfl
theorem getD_false {L : Array Bool} {i : Nat} (h : L.getD i true = false) : i < L.size ∧ L.getD i false = false := by
  have hi : i < L.size := by
    rcases Nat.lt_or_ge i L.size with h' | h'
    · exact h'
    · simp [Array.getD, Nat.not_lt.2 h'] at h
  refine ⟨hi, ?_⟩
  simpa [Array.getD, hi] using h
structure Fr (a0 : Act) (dst : Nat → Nat) (n : Nat) (a : Act) : Prop where
  defers : a.defers = a0.defers
  size : a.tmps.size = a0.tmps.size
  rest : ∀ k, (∀ i, i < n → dst i ≠ k) → a.tmps[k]? = a0.tmps[k]?
theorem Fr.eval {a0 : Act} {dst : Nat → Nat} {n : Nat} {a : Act} (h : Fr a0 dst n a) (k : Nat) (hk : ∀ i, i < n → dst i ≠ k) : a.eval (.tmp k) = a0.eval (.tmp k) := by
  show a.tmps.getD k undef = a0.tmps.getD k undef
  rw [Array.getD_eq_getD_getElem?, Array.getD_eq_getD_getElem?, h.rest k hk]
theorem Fr.put {a0 : Act} {dst : Nat → Nat} {n i : Nat} {a : Act} (h : Fr a0 dst n a) (hi : i < n) (v : Value) : Fr a0 dst n (a.put (some (dst i)) v) := by
  refine ⟨h.defers, ?_, fun k hk => ?_⟩
  · show (a.tmps.setIfInBounds (dst i) v).size = _
    rw [Array.size_setIfInBounds, h.size]
  · show (a.tmps.setIfInBounds (dst i) v)[k]? = _
    rw [Array.getElem?_setIfInBounds_ne (hk i hi), h.rest k hk]
theorem Fr.mono {a0 : Act} {dst : Nat → Nat} {n n' : Nat} {a : Act} (h : Fr a0 dst n a) (hn : n ≤ n') : Fr a0 dst n' a := ⟨h.defers, h.size, fun k hk => h.rest k fun i hi => hk i (by omega)⟩
theorem put_eval_same {a : Act} {k : Nat} (v : Value) (hk : k < a.tmps.size) : (a.put (some k) v).eval (.tmp k) = v := by
  show (a.tmps.setIfInBounds k v).getD k undef = v
  simp [Array.getD, hk]
theorem put_eval_ne {a : Act} {k j : Nat} (v : Value) (hk : k ≠ j) : (a.put (some k) v).eval (.tmp j) = a.eval (.tmp j) := by
  show (a.tmps.setIfInBounds k v).getD j undef = a.tmps.getD j undef
  rw [Array.getD_eq_getD_getElem?, Array.getD_eq_getD_getElem?, Array.getElem?_setIfInBounds_ne hk]
theorem ev_get {a : Act} {k : Nat} {v : Value} (h : a.eval (.tmp k) = v) : a.tmps[k]?.getD undef = v := by
  rw [← Array.getD_eq_getD_getElem?]; exact h
def dstOk (ops : Array Oper) (n : Nat) (dst : Nat → Nat) (size : Nat) : Bool :=
  (List.range n).all fun i => match ops[i]? with
    | some o => o.dst == some (dst i) && o.guard.isNone && decide (dst i < size)
    | none => false
theorem dst_ok {ops : Array Oper} {n : Nat} {dst : Nat → Nat} {size : Nat} (h : dstOk ops n dst size = true) : ∀ i, i < n → ∃ o, ops[i]? = some o ∧ o.dst = some (dst i) ∧ o.guard = none ∧ dst i < size := fun i hi => by
  unfold dstOk at h
  have := (List.all_eq_true.1 h) i (List.mem_range.2 hi)
  cases ho : ops[i]? with
  | none => rw [ho] at this; cases this
  | some o =>
    rw [ho] at this
    simp only [Bool.and_eq_true, beq_iff_eq, decide_eq_true_eq, Option.isNone_iff_eq_none] at this
    exact ⟨o, rfl, this.1.1, this.1.2, this.2⟩
theorem step_k {P : Program} {o : Oper} {a : Act} {w : World} {R : Act → World → Prop} {Q : Exit → Act → World → Prop} (h : ∀ K : Act → World → Prop, (∀ a w, R a w → K a w) → o.wp P a w K Q) : o.wp P a w R Q := h R (fun _ _ h => h)
/-- the frame behind: the slots that were written are new, all others as they were -/
theorem Fr.lit {l : List Value} {ds : List Deferred} {n lo : Nat} {a : Act} (hF : Fr ⟨l.toArray, ds⟩ (fun i => lo + i) n a) (hlo : lo + n ≤ l.length) :
    ∃ x : List Value, x.length = n ∧ a = ⟨(l.take lo ++ x ++ l.drop (lo + n)).toArray, ds⟩ ∧ ∀ i, i < n → a.eval (.tmp (lo + i)) = x.getD i undef := by
  obtain ⟨t, d⟩ := a
  obtain ⟨h1, h2, h3⟩ := hF
  have h1' : d = ds := h1
  subst h1'
  have h2' : t.size = l.length := by simpa using h2
  refine ⟨(t.toList.drop lo).take n, by rw [List.length_take, List.length_drop, Array.length_toList]; omega, ?_, fun i hi => ?_⟩
  · congr 1
    apply Array.ext'
    apply List.ext_getElem?
    intro k
    have hx : ((t.toList.drop lo).take n).length = n := by rw [List.length_take, List.length_drop, Array.length_toList]; omega
    have hlt : (l.take lo).length = lo := by rw [List.length_take]; omega
    have h3k := h3 k
    simp only [List.getElem?_toArray] at h3k
    rw [Array.getElem?_toList]
    show t[k]? = (l.take lo ++ (t.toList.drop lo).take n ++ l.drop (lo + n))[k]?
    rcases Nat.lt_or_ge k lo with hk | hk
    · rw [List.append_assoc, List.getElem?_append_left (by omega), List.getElem?_take, if_pos hk]
      exact h3k fun i _ => by omega
    · rcases Nat.lt_or_ge k (lo + n) with hk2 | hk2
      · rw [List.append_assoc, List.getElem?_append_right (by omega), List.getElem?_append_left (by omega), List.getElem?_take, if_pos (by omega), List.getElem?_drop, hlt, Array.getElem?_toList]
        congr 1; omega
      · rw [List.getElem?_append_right (by rw [List.length_append]; omega), List.getElem?_drop, List.length_append, hlt, hx, show lo + n + (k - (lo + n)) = k by omega]
        exact h3k fun i _ => by omega
  · show t.getD (lo + i) undef = _
    rw [Array.getD_eq_getD_getElem?, List.getD_eq_getElem?_getD, List.getElem?_take, if_pos hi, List.getElem?_drop, Array.getElem?_toList]
/-- the same, with one slot ahead besides -/
theorem Fr.lit2 {l : List Value} {ds : List Deferred} {n lo s : Nat} {a : Act} (hF : Fr ⟨l.toArray, ds⟩ (fun i => if i < n then lo + i else s) (n + 1) a) (hs : s < lo) (hlo : lo + n ≤ l.length) :
    ∃ (y : Value) (x : List Value), x.length = n ∧ a = ⟨(l.take s ++ y :: (l.take lo).drop (s + 1) ++ x ++ l.drop (lo + n)).toArray, ds⟩ ∧ a.eval (.tmp s) = y ∧ ∀ i, i < n → a.eval (.tmp (lo + i)) = x.getD i undef := by
  have hF' : Fr ⟨(l.set s (a.eval (.tmp s))).toArray, ds⟩ (fun i => lo + i) n a := by
    refine ⟨hF.defers, by simpa using hF.size, fun k hk => ?_⟩
    by_cases he : k = s
    · subst he
      have hsz : k < a.tmps.size := by rw [hF.size]; simp; omega
      simp only [List.getElem?_toArray]
      rw [List.getElem?_set_self (by omega), Array.getElem?_eq_getElem hsz]
      show _ = some (a.tmps.getD k undef)
      simp [Array.getD, hsz]
    · have := hF.rest k fun i hi => by
        show (if i < n then lo + i else s) ≠ k
        split
        · exact hk i (by assumption)
        · exact fun e => he e.symm
      rw [this]
      simp only [List.getElem?_toArray]
      rw [List.getElem?_set_ne (fun e => he e.symm)]
  obtain ⟨x, hx, ha, hev⟩ := Fr.lit hF' (by rw [List.length_set]; exact hlo)
  refine ⟨_, x, hx, ?_, rfl, hev⟩
  refine ha.trans ?_
  congr 2
  rw [List.drop_set_of_lt (by omega)]
  congr 2
  rw [List.take_set, List.set_eq_take_append_cons_drop, if_pos (by rw [List.length_take]; omega), List.take_take, Nat.min_eq_left (by omega)]
section
variable {P : Program} {ops : Array Oper} {Q : Exit → Act → World → Prop} {id : Nat} {a0 : Act} {w0 : World}
def Ahead (ops : Array Oper) (a0 : Act) (w0 : World) (n : Nat) (dst : Nat → Nat) (G : Nat → Value → World → Prop) (L : Array Bool) (a : Act) (w : World) : Prop :=
  (∀ k, n ≤ k → L.getD k false = false) ∧ Fr a0 dst n a ∧ Below w0.heap.size w0 w ∧ ∀ i, i < n → L.getD i false = true → G i (a.eval (.tmp (dst i))) w
def Behind (P : Program) (ops : Array Oper) (Q : Exit → Act → World → Prop) (n : Nat) (L : Array Bool) (a : Act) (w : World) : Prop :=
  ∃ k, n ≤ k ∧ (∀ i, i < k → L.getD i false = true) ∧ (∀ i, k ≤ i → L.getD i false = false) ∧ wpList P ops Q (ops.toList.drop k) a w
theorem depsAt_some {o : Oper} {i : Nat} (h : ops[i]? = some o) : depsAt ops i = deps o := by unfold depsAt; rw [h]
theorem ready_deps {L : Array Bool} {i : Nat} (h : i ∈ Region.ready .any ops L) : L.getD i true = false ∧ ∃ o, ops[i]? = some o ∧ ∀ j ∈ deps o, L.getD j false = true := by
  obtain ⟨h1, o, ho, hd⟩ := mem_ready.1 h
  refine ⟨h1, o, ho, fun j hj => ?_⟩
  obtain ⟨e, he, rfl⟩ := List.mem_map.1 hj
  obtain ⟨he1, he2⟩ := List.mem_filter.1 he
  exact hd e (by simpa using he1) he2
theorem ready_of {L : Array Bool} {i : Nat} {o : Oper} (ho : ops[i]? = some o) (h1 : L.getD i true = false) (hd : ∀ j ∈ deps o, L.getD j false = true) : i ∈ Region.ready .any ops L := by
  refine mem_ready.2 ⟨h1, o, ho, fun e he hb => hd _ ?_⟩
  exact List.mem_map.2 ⟨e, List.mem_filter.2 ⟨by simpa using he, hb⟩, rfl⟩
theorem not_ready {L : Array Bool} {n : Nat} (hT : tailOk ops n = true) (hsz : L.size = ops.size) (hr : Region.ready .any ops L = []) (k : Nat) (hk : k < ops.size) : L.getD k false = true := by
  have hlow : ∀ i, i < ops.size → ∀ j ∈ depsAt ops i, j < i := fun i hi j hj => by
    unfold tailOk at hT
    rw [Bool.and_eq_true, List.all_eq_true] at hT
    have := hT.2 i (List.mem_range.2 hi)
    rw [Bool.and_eq_true, List.all_eq_true] at this
    exact of_decide_eq_true (this.1 j hj)
  induction k using Nat.strongRecOn with
  | _ k ih =>
    cases hL : L.getD k false with
    | true => rfl
    | false =>
      obtain ⟨o, ho⟩ : ∃ o, ops[k]? = some o := ⟨_, Array.getElem?_eq_getElem hk⟩
      have hm : k ∈ Region.ready .any ops L := by
        refine ready_of ho ?_ fun j hj => ?_
        · have : k < L.size := by omega
          simp only [Array.getD, this] at hL ⊢
          exact hL
        · have hj' : j ∈ depsAt ops k := by rw [depsAt_some ho]; exact hj
          have := hlow k hk j hj'
          exact ih j this (by omega)
      rw [hr] at hm
      cases hm
theorem wp_region_two (n : Nat) (dst : Nat → Nat) (G : Nat → Value → World → Prop) (hm : P.follows .mixedOrders = true) (hT : tailOk ops n = true)
    (hinj : ∀ i j, i < n → j < n → dst i = dst j → i = j)
    (hdst : ∀ i, i < n → ∃ o, ops[i]? = some o ∧ o.dst = some (dst i) ∧ o.guard = none ∧ dst i < a0.tmps.size)
    (hstab : ∀ i v w w', i < n → G i v w → Below w.heap.size w w' → G i v w')
    (hstep : ∀ i o a w, i < n → ops[i]? = some o → Fr a0 dst n a → Below w0.heap.size w0 w → (∀ j ∈ deps o, G j (a.eval (.tmp (dst j))) w) → o.wp P a w (fun a' w' => ∃ v, a' = a.put o.dst v ∧ Below w.heap.size w w' ∧ G i v w') Q)
    (htail : ∀ a w, Fr a0 dst n a → Below w0.heap.size w0 w → (∀ i, i < n → G i (a.eval (.tmp (dst i))) w) → wpList P ops Q (ops.toList.drop n) a w) :
    (Code.region id ops true).wp P Q a0 w0 := by
  have hT2 := hT
  unfold tailOk at hT2
  rw [Bool.and_eq_true, List.all_eq_true, decide_eq_true_eq] at hT2
  obtain ⟨hn, hT2⟩ := hT2
  have hlow : ∀ i, i < ops.size → ∀ j ∈ depsAt ops i, j < i := fun i hi j hj => by
    have := hT2 i (List.mem_range.2 hi)
    rw [Bool.and_eq_true, List.all_eq_true] at this
    exact of_decide_eq_true (this.1 j hj)
  have hbig : ∀ (L : Array Bool) i, n ≤ i → i < ops.size → Closed ops L → (∀ j ∈ depsAt ops i, L.getD j false = true) → ∀ j, j < i → L.getD j false = true := fun L i hi hs hc hd j hj => by
    have := hT2 i (List.mem_range.2 hs)
    rw [Bool.and_eq_true, Bool.or_eq_true, decide_eq_true_eq] at this
    rcases this.2 with h | h
    · omega
    · have hjm : j ∈ clos ops [i] i := by simpa using (List.all_eq_true.1 h) j (List.mem_range.2 hj)
      rcases clos_mem hc hd i [i] (fun m hm => .inl (List.mem_singleton.1 hm)) j hjm with h | h
      · omega
      · exact h
  refine wp_region_inv (fun L a w => L.size = ops.size ∧ Closed ops L ∧ (Ahead ops a0 w0 n dst G L a w ∨ Behind P ops Q n L a w)) hm ?_ ?_ ?_
  · rintro L i a w hi ⟨hsz, hc, hph⟩
    obtain ⟨hLi, o, ho, hd⟩ := ready_deps hi
    obtain ⟨hiL, hLf⟩ := getD_false hLi
    have hd' : ∀ j ∈ depsAt ops i, L.getD j false = true := by rw [depsAt_some ho]; exact hd
    have hsz' : (L.setIfInBounds i true).size = ops.size := by rw [Array.size_setIfInBounds, hsz]
    have hc' : Closed ops (L.setIfInBounds i true) := fun m hm j hj => by
      rw [getD_set L i _ hiL] at hm ⊢
      split
      · rfl
      · by_cases he : m = i
        · subst he; exact hd' j hj
        · rw [if_neg he] at hm; exact hc m hm j hj
    have low : ∀ k, n ≤ k → (∀ j, j < k → L.getD j false = true) → (∀ j, k ≤ j → L.getD j false = false) → n ≤ i → i = k := fun k hnk hk1 hk2 hni => by
      have h1 := hbig L i hni (by omega) hc hd'
      rcases Nat.lt_trichotomy i k with h | h | h
      · rw [hk1 i h] at hLf; cases hLf
      · exact h
      · have := h1 k h; rw [hk2 k (Nat.le_refl _)] at this; cases this
    have onBehind : ∀ k, k = i → n ≤ k → (∀ j, j < k → L.getD j false = true) → (∀ j, k ≤ j → L.getD j false = false) → wpList P ops Q (ops.toList.drop k) a w → wpOp P ops Q i (fun a w => (L.setIfInBounds i true).size = ops.size ∧ Closed ops (L.setIfInBounds i true) ∧ (Ahead ops a0 w0 n dst G (L.setIfInBounds i true) a w ∨ Behind P ops Q n (L.setIfInBounds i true) a w)) a w := by
      rintro k rfl hnk hk1 hk2 hwp
      have hks : k < ops.size := by omega
      have hcons : ops.toList.drop k = o :: ops.toList.drop (k + 1) := by
        rw [List.drop_eq_getElem_cons (by simpa using hks)]
        congr 1
        have := Array.getElem?_eq_getElem hks
        rw [ho] at this
        simpa using (Option.some.inj this).symm
      rw [hcons] at hwp
      have up : ∀ a w, wpList P ops Q (ops.toList.drop (k + 1)) a w → (L.setIfInBounds k true).size = ops.size ∧ Closed ops (L.setIfInBounds k true) ∧ (Ahead ops a0 w0 n dst G (L.setIfInBounds k true) a w ∨ Behind P ops Q n (L.setIfInBounds k true) a w) := fun a w h =>
        ⟨hsz', hc', .inr ⟨k + 1, by omega, fun j hj => by
          rw [getD_set L k _ hiL]
          split
          · rfl
          · exact hk1 j (by omega), fun j hj => by
          rw [getD_set L k _ hiL, if_neg (by omega)]
          exact hk2 j (by omega), h⟩⟩
      unfold wpOp
      rw [ho]
      unfold wpList at hwp
      show ite _ _ _
      split
      · rename_i hw
        rw [if_pos hw] at hwp
        exact hwp.imp (Oper.wp_mono up) (fun h => h)
      · rename_i hw
        rw [if_neg hw] at hwp
        exact up _ _ hwp
    rcases hph with ⟨hk, hF, hB, hG⟩ | ⟨k, hnk, hk1, hk2, hwp⟩
    · by_cases hin : i < n
      · obtain ⟨o', ho', hod, hog, hos⟩ := hdst i hin
        have : o' = o := by rw [ho] at ho'; exact (Option.some.inj ho').symm
        subst this
        have hs := hstep i o' a w hin ho hF hB (fun j hj => hG j (by have := hlow i (by omega) j (by rw [depsAt_some ho]; exact hj); omega) (hd j hj))
        unfold wpOp
        rw [ho]
        show ite _ _ _
        rw [if_pos (by simp [Region.wanted, hog])]
        refine .inl (Oper.wp_mono ?_ hs)
        rintro a' w' ⟨v, rfl, hBw, hGv⟩
        have hos' : dst i < a.tmps.size := by rw [hF.size]; exact hos
        refine ⟨hsz', hc', .inl ⟨fun k hnk => ?_, by rw [hod]; exact hF.put hin v, ?_, fun j hj hLj => ?_⟩⟩
        · rw [getD_set L i _ hiL, if_neg (by omega)]; exact hk k hnk
        · exact hB.trans (hBw.mono hB.size)
        · rw [hod]
          by_cases he : j = i
          · subst he; rw [put_eval_same v hos']; exact hGv
          · rw [getD_set L i _ hiL, if_neg he] at hLj
            rw [put_eval_ne v (fun e => he (hinj i j hin hj e).symm)]
            exact hstab j _ w w' hj (hG j hj hLj) hBw
      · have h1 := hbig L i (by omega) (by omega) hc hd'
        have hin' : n = i := by
          rcases Nat.lt_or_ge n i with h | h
          · have := h1 n h; rw [hk n (Nat.le_refl _)] at this; cases this
          · omega
        refine onBehind n hin' (Nat.le_refl _) (fun j hj => h1 j (by omega)) hk (htail a w hF hB fun j hj => hG j hj (h1 j (by omega)))
    · rcases Nat.lt_or_ge i n with h | h
      · rw [hk1 i (by omega)] at hLf; cases hLf
      · exact onBehind k (low k hnk hk1 hk2 h).symm hnk hk1 hk2 hwp
  · rintro L a w hr ⟨hsz, hc, ⟨hk, _⟩ | ⟨k, hnk, hk1, hk2, hwp⟩⟩
    · have := not_ready hT hsz hr n hn
      rw [hk n (Nat.le_refl _)] at this; cases this
    · have : ops.size ≤ k := by
        rcases Nat.lt_or_ge k ops.size with h | h
        · have := not_ready hT hsz hr k h
          rw [hk2 k (Nat.le_refl _)] at this; cases this
        · exact h
      rw [List.drop_eq_nil_of_le (by simpa using this)] at hwp
      exact hwp
  · have hf : ∀ k, (Array.replicate ops.size false).getD k false = false := fun k => by
      simp [Array.getD]
    refine ⟨by simp, fun i hi => ?_, .inl ⟨fun k _ => hf k, ⟨rfl, rfl, fun _ _ => rfl⟩, ⟨rfl, rfl, rfl, Nat.le_refl _, fun _ _ => rfl⟩, fun i _ hL => ?_⟩⟩
    · rw [hf] at hi; cases hi
    · rw [hf] at hL; cases hL
/-- a region whose order is fixed, by the same facts -/
theorem wp_region_seq (n : Nat) (dst : Nat → Nat) (G : Nat → Value → World → Prop) (hn : n ≤ ops.size)
    (hinj : ∀ i j, i < n → j < n → dst i = dst j → i = j)
    (hdst : ∀ i, i < n → ∃ o, ops[i]? = some o ∧ o.dst = some (dst i) ∧ o.guard = none ∧ dst i < a0.tmps.size)
    (hstab : ∀ i v w w', i < n → G i v w → Below w.heap.size w w' → G i v w')
    (hstep : ∀ i o a w, i < n → ops[i]? = some o → Fr a0 dst n a → Below w0.heap.size w0 w → (∀ j ∈ List.range i, G j (a.eval (.tmp (dst j))) w) → o.wp P a w (fun a' w' => ∃ v, a' = a.put o.dst v ∧ Below w.heap.size w w' ∧ G i v w') Q)
    (htail : ∀ a w, Fr a0 dst n a → Below w0.heap.size w0 w → (∀ i, i < n → G i (a.eval (.tmp (dst i))) w) → wpList P ops Q (ops.toList.drop n) a w) :
    (Code.region id ops false).wp P Q a0 w0 := by
  have key : ∀ r k, k + r = n → ∀ a w, Fr a0 dst n a → Below w0.heap.size w0 w → (∀ j, j < k → G j (a.eval (.tmp (dst j))) w) → wpList P ops Q (ops.toList.drop k) a w := by
    intro r
    induction r with
    | zero => intro k hk a w hF hB hG; obtain rfl : k = n := by omega
              exact htail a w hF hB hG
    | succ r ih =>
      intro k hk a w hF hB hG
      have hkn : k < n := by omega
      obtain ⟨o, ho, hod, hog, hos⟩ := hdst k hkn
      have hks : k < ops.size := by omega
      have hcons : ops.toList.drop k = o :: ops.toList.drop (k + 1) := by
        rw [List.drop_eq_getElem_cons (by simpa using hks)]
        congr 1
        have := Array.getElem?_eq_getElem hks
        rw [ho] at this
        simpa using (Option.some.inj this).symm
      rw [hcons]
      refine wpList_plain hog fun K hK => ?_
      refine Oper.wp_mono ?_ (hstep k o a w hkn ho hF hB fun j hj => hG j (List.mem_range.1 hj))
      rintro a' w' ⟨v, rfl, hBw, hGv⟩
      have hos' : dst k < a.tmps.size := by rw [hF.size]; exact hos
      refine hK _ _ (ih (k + 1) (by omega) _ w' (by rw [hod]; exact hF.put hkn v) (hB.trans (hBw.mono hB.size)) fun j hj => ?_)
      rw [hod]
      by_cases he : j = k
      · subst he; rw [put_eval_same v hos']; exact hGv
      · rw [put_eval_ne v (fun e => he (hinj k j hkn (by omega) e).symm)]
        exact hstab j _ w w' (by omega) (hG j (by omega)) hBw
  refine wp_region_list ?_
  have := key n 0 (by omega) a0 w0 ⟨rfl, rfl, fun _ _ => rfl⟩ (Below.refl _ _) (fun j hj => absurd hj (by omega))
  rwa [List.drop_zero] at this
end
end Reg
end Go.Proofs.YtagoajoaojakhaaDoor
