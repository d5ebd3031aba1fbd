/- The program's walks and the document's recursions come to the same plain answers. -/
import Derived.Test.YtmedpblpcfobdaaDoorQJCount
import Derived.Test.YtmedpblpcfobdaaDoorQDeep
namespace Go.Proofs.YtmedpblpcfobdaaDoor
open Go.RowKit Rep
namespace Rep

theorem cntL_stop {α : Type} (f : α → Nat → Nat) (l : List (Ins α)) : cntL f l 65537 = 65537 := by cases l <;> rfl
theorem cnt_stop : ∀ (d : Nat) (l : IL d), cnt d l 65537 = 65537
  | 0, _ => rfl
  | d + 1, l => cntL_stop (cnt d) l
theorem ite_some {p : Prop} [Decidable p] {α : Type} {a : α} {β : Type} (f : α → Option β) : (if p then some a else none).bind f = if p then f a else none := by split <;> rfl
theorem goL_cnt {α : Type} (f : α → Nat → Nat) (hf : ∀ x, f x 65537 = 65537) (hb : ∀ x c, f x c ≤ max c 65537) (sub : α → Nat → Option Nat) (hs : ∀ y c, c ≤ 65536 → sub y c = if f y c ≤ 65536 then some (f y c) else none)
    (st : Nat → Ins α → Option Nat) (hst : ∀ c x, st c x = if c + 1 ≤ 65536 then some (c + 1) else none) :
    ∀ (l : List (Ins α)) (c : Nat), c ≤ 65536 → goL st sub l c = if cntL f l c ≤ 65536 then some (cntL f l c) else none
  | [], c, hc => by
    show some c = if c ≤ 65536 then some c else none
    rw [if_pos hc]
  | x :: r, c, hc => by
    have e : cntL f (x :: r) c = cntL f r (f x.els (f x.body (c + 1))) := if_pos hc
    show (st c x).bind _ = _
    rw [hst, e, ite_some]
    by_cases h1 : c + 1 ≤ 65536
    · rw [if_pos h1, hs _ _ h1, ite_some]
      by_cases h2 : f x.body (c + 1) ≤ 65536
      · rw [if_pos h2, hs _ _ h2, ite_some]
        by_cases h3 : f x.els (f x.body (c + 1)) ≤ 65536
        · rw [if_pos h3]
          exact goL_cnt f hf hb sub hs st hst r _ h3
        · have h4 : f x.els (f x.body (c + 1)) = 65537 := by have := hb x.els (f x.body (c + 1)); omega
          rw [if_neg h3, h4, cntL_stop]; rfl
      · have h4 : f x.body (c + 1) = 65537 := by have := hb x.body (c + 1); omega
        rw [if_neg h2, h4, hf, cntL_stop]; rfl
    · have h4 : c + 1 = 65537 := by omega
      rw [if_neg h1, h4, hf, hf, cntL_stop]; rfl
theorem goI_cnt : ∀ (d : Nat) (l : IL d) (k c : Nat), c ≤ 65536 → goI stepCount d l k c = if cnt d l c ≤ 65536 then some (cnt d l c) else none
  | 0, _, _, c, hc => by
    show some c = if c ≤ 65536 then some c else none
    rw [if_pos hc]
  | d + 1, l, k, c, hc => goL_cnt (cnt d) (cnt_stop d) (cnt_le d) _ (fun y c hc => goI_cnt d y (k + 1) c hc) _ (fun _ _ => rfl) l c hc
theorem goF_cnt (d : Nat) : ∀ (l : List (Fun d)) (c : Nat), c ≤ 65536 → goF stepCount d l c = if cntF d l c ≤ 65536 then some (cntF d l c) else none
  | [], c, hc => by
    show some c = if c ≤ 65536 then some c else none
    rw [if_pos hc]
  | x :: r, c, hc => by
    have e : cntF d (x :: r) c = cntF d r (cnt d x.body c) := if_pos hc
    show (goI stepCount d x.body 0 c).bind _ = _
    rw [goI_cnt d _ _ _ hc, e, ite_some]
    by_cases h1 : cnt d x.body c ≤ 65536
    · rw [if_pos h1]; exact goF_cnt d r _ h1
    · have h4 : cnt d x.body c = 65537 := by have := cnt_le d x.body c; omega
      rw [if_neg h1, h4]
      have : cntF d r 65537 = 65537 := by cases r <;> rfl
      rw [this]; rfl
theorem cntF_le (d : Nat) : ∀ (l : List (Fun d)) (c : Nat), cntF d l c ≤ max c 65537
  | [], c => by show c ≤ _; omega
  | x :: r, c => by
    unfold cntF
    split
    · have h1 := cnt_le d x.body c
      have h2 := cntF_le d r (cnt d x.body c)
      omega
    · omega
theorem cntM_eq (d : Nat) (l : List (Fun d)) : cntM d l = min (cntF d l 0) 65537 := by
  unfold cntM
  rw [goF_cnt d l 0 (by omega)]
  have h := cntF_le d l 0
  split
  · show cntF d l 0 = _; omega
  · show 65537 = _; omega

/-- walks that only look: all of what is seen must hold -/
def allL {α : Type} (p : Ins α → Bool) (sub : α → Bool) (l : List (Ins α)) : Bool := l.all fun x => p x && (sub x.body && sub x.els)
def allI (p : Sn → Nat → Bool) : (d : Nat) → IL d → Nat → Bool
  | 0, _, _ => true
  | d + 1, l, k => allL (fun x => p (sn x) k) (fun y => allI p d y (k + 1)) l
theorem goL_all {α : Type} (p : Ins α → Bool) (sub : α → Bool) (st : Unit → Ins α → Option Unit) (hst : ∀ u x, st u x = if p x = true then some () else none) (su : α → Unit → Option Unit) (hsu : ∀ y u, su y u = if sub y = true then some () else none) :
    ∀ (l : List (Ins α)) (u : Unit), goL st su l u = if allL p sub l = true then some () else none
  | [], _ => rfl
  | x :: r, u => by
    show (st u x).bind _ = _
    have e : allL p sub (x :: r) = ((p x && (sub x.body && sub x.els)) && allL p sub r) := rfl
    rw [hst, e, ite_some]
    cases p x
    · rfl
    · rw [if_pos rfl, hsu, ite_some]
      cases sub x.body
      · rfl
      · rw [if_pos rfl, hsu, ite_some]
        cases sub x.els
        · rfl
        · rw [if_pos rfl, goL_all p sub st hst su hsu r]; rfl
theorem goI_all (p : Sn → Nat → Bool) (st : Unit → Sn → Nat → Option Unit) (hst : ∀ u x k, st u x k = if p x k = true then some () else none) : ∀ (d : Nat) (l : IL d) (k : Nat) (u : Unit), goI st d l k u = if allI p d l k = true then some () else none
  | 0, _, _, _ => rfl
  | d + 1, l, k, u => goL_all (fun x => p (sn x) k) (fun y => allI p d y (k + 1)) _ (fun u x => hst u (sn x) k) _ (fun y u => goI_all p st hst d y (k + 1) u) l u
theorem goF_all (p : Sn → Nat → Bool) (st : Unit → Sn → Nat → Option Unit) (hst : ∀ u x k, st u x k = if p x k = true then some () else none) (d : Nat) : ∀ (l : List (Fun d)) (u : Unit), goF st d l u = if (l.all fun f => allI p d f.body 0) = true then some () else none
  | [], _ => rfl
  | x :: r, u => by
    show (goI st d x.body 0 u).bind _ = _
    rw [goI_all p st hst, ite_some, List.all_cons]
    cases allI p d x.body 0
    · rfl
    · rw [if_pos rfl, goF_all p st hst d r]; rfl
theorem okL_all : ∀ (d : Nat) (l : IL d) (k : Nat), allI (fun x _ => okS x) d l k = okL d l
  | 0, _, _ => rfl
  | d + 1, l, k => by
    show allL _ _ l = List.all (α := Ins (IL d)) l _
    unfold allL
    congr 1
    funext x
    show (okS (sn x) && (allI (fun x _ => okS x) d x.body (k + 1) && allI (fun x _ => okS x) d x.els (k + 1))) = _
    rw [okL_all d x.body (k + 1), okL_all d x.els (k + 1)]
theorem any_not_all {α : Type} {p q : α → Bool} (h : ∀ x, p x = !q x) : ∀ l : List α, l.any p = !l.all q
  | [] => rfl
  | x :: r => by rw [List.any_cons, List.all_cons, h x, any_not_all h r, Bool.not_and]
theorem few_not (n : Nat) : decide (4096 < n) = !few (n : Int) := by
  unfold few
  by_cases h : 4096 < n
  · rw [decide_eq_true h, decide_eq_false (by omega)]; rfl
  · rw [decide_eq_false h, decide_eq_true (by omega)]; rfl
theorem lab_all : ∀ (d : Nat) (l : IL d) (k : Nat), lab d l = !allI (fun x _ => few x.labels.length) d l k
  | 0, _, _ => rfl
  | d + 1, l, k => by
    refine any_not_all (fun x => ?_) l
    show (decide (4096 < x.labels.length) || lab d x.body || lab d x.els) = !(few x.labels.length && (allI _ d x.body (k + 1) && allI _ d x.els (k + 1)))
    rw [few_not, lab_all d x.body (k + 1), lab_all d x.els (k + 1), Bool.not_and, Bool.not_and, Bool.or_assoc]
theorem dp_all : ∀ (d : Nat) (l : IL d) (k : Nat), dp d l k = !allI (fun _ k => decide (k ≤ 64)) d l k
  | 0, _, _ => rfl
  | d + 1, l, k => by
    show ((decide (0 < List.length (α := Ins (IL d)) l) && decide (64 < k)) || List.any (α := Ins (IL d)) l fun x => dp d x.body (k + 1) || dp d x.els (k + 1)) = !List.all (α := Ins (IL d)) l _
    have hd : ∀ x : Ins (IL d), (dp d x.body (k + 1) || dp d x.els (k + 1)) = !(allI (fun _ k => decide (k ≤ 64)) d x.body (k + 1) && allI (fun _ k => decide (k ≤ 64)) d x.els (k + 1)) := fun x => by
      rw [dp_all d x.body (k + 1), dp_all d x.els (k + 1), Bool.not_and]
    by_cases hk : k ≤ 64
    · rw [decide_eq_false (by omega : ¬ 64 < k), Bool.and_false, Bool.false_or]
      refine any_not_all (fun x => ?_) l
      show _ = !(decide (k ≤ 64) && _)
      rw [decide_eq_true hk, Bool.true_and]
      exact hd x
    · rw [decide_eq_true (by omega : 64 < k), Bool.and_true]
      cases l with
      | nil => rfl
      | cons x r =>
        have e : List.all (α := Ins (IL d)) (x :: r) (fun x => decide (k ≤ 64) && (allI (fun _ k => decide (k ≤ 64)) d x.body (k + 1) && allI (fun _ k => decide (k ≤ 64)) d x.els (k + 1))) = false := by
          rw [List.all_cons, decide_eq_false hk, Bool.false_and, Bool.false_and]
        have e0 : decide (0 < List.length (α := Ins (IL d)) (x :: r)) = true := by simp
        rw [e0, Bool.true_or]
        exact (congrArg (fun b => !b) e).symm
end Rep
end Go.Proofs.YtmedpblpcfobdaaDoor
