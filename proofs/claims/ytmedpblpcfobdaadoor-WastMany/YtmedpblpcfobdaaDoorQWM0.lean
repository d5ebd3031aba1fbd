/- Instructions made at once, and marked one by one. -/
import Derived.Test.YtmedpblpcfobdaaDoorQWN
namespace Go.Proofs.YtmedpblpcfobdaaDoor
open Go.RowKit Rep
set_option linter.unusedVariables false
namespace Rep
/-- a row of n instructions without anything, the first j of them marked -/
structure Marks (w : World) (b n j : Nat) : Prop where
  op : ∀ k, k < n → w.cell? ⟨b, k * 7, none⟩ = some (.int .i64 (if k < j then 1 else 0))
  a : ∀ k, k < n → w.cell? ⟨b, k * 7 + 1, none⟩ = some (.int .i64 0)
  b' : ∀ k, k < n → w.cell? ⟨b, k * 7 + 2, none⟩ = some (.int .i64 0)
  n' : ∀ k, k < n → w.cell? ⟨b, k * 7 + 3, none⟩ = some (.int .i64 0)
  l : ∀ k, k < n → w.cell? ⟨b, k * 7 + 4, none⟩ = some (.slice none 0 0)
  y : ∀ k, k < n → w.cell? ⟨b, k * 7 + 5, none⟩ = some (.slice none 0 0)
  e : ∀ k, k < n → w.cell? ⟨b, k * 7 + 6, none⟩ = some (.slice none 0 0)
  fz : ∀ o, w.frozen? ⟨b, o, none⟩ = false
theorem Marks.set {w : World} {b n j : Nat} (h : Marks w b n j) (hj : j < n) : Marks (w.setCell ⟨b, j * 7, none⟩ (.int .i64 1)) b n (j + 1) := by
  have other : ∀ o, o ≠ j * 7 → (w.setCell ⟨b, j * 7, none⟩ (.int .i64 1)).cell? ⟨b, o, none⟩ = w.cell? ⟨b, o, none⟩ := fun o ho => by
    have hne : (⟨b, j * 7, none⟩ : Addr) ≠ ⟨b, o, none⟩ := fun e => by injection e with _ e2; exact ho e2.symm
    first | exact World.cell?_setCell_other _ _ _ hne | exact World.cell?_setCell_other _ _ _ _ hne
  refine ⟨fun k hk => ?_, fun k hk => ?_, fun k hk => ?_, fun k hk => ?_, fun k hk => ?_, fun k hk => ?_, fun k hk => ?_, fun o => by rw [World.frozen?_setCell]; exact h.fz o⟩
  · by_cases e : k = j
    · subst e
      rw [if_pos (by omega)]
      first | exact World.cell?_setCell_same _ _ _ (h.op k hk) | exact World.cell?_setCell_same _ _ (h.op k hk)
    · rw [other _ (by omega), h.op k hk]
      by_cases h2 : k < j
      · rw [if_pos h2, if_pos (by omega)]
      · rw [if_neg h2, if_neg (by omega)]
  · rw [other _ (by omega), h.a k hk]
  · rw [other _ (by omega), h.b' k hk]
  · rw [other _ (by omega), h.n' k hk]
  · rw [other _ (by omega), h.l k hk]
  · rw [other _ (by omega), h.y k hk]
  · rw [other _ (by omega), h.e k hk]
theorem Marks.on {w w' : World} (hb : Below w.heap.size w w') {b n j : Nat} (hlt : b < w.heap.size) (h : Marks w b n j) : Marks w' b n j :=
  ⟨fun k hk => cell_on hb (h.op k hk), fun k hk => cell_on hb (h.a k hk), fun k hk => cell_on hb (h.b' k hk), fun k hk => cell_on hb (h.n' k hk), fun k hk => cell_on hb (h.l k hk), fun k hk => cell_on hb (h.y k hk), fun k hk => cell_on hb (h.e k hk), fun o => (hb.frozen (p := ⟨b, o, none⟩) hlt).trans (h.fz o)⟩
/-- so many of the same, at any depth -/
def nopD (d : Nat) : Ins (IL d) := ⟨1, 0, 0, 0, [], noI d, noI d⟩
def nops (d n : Nat) : List (Ins (IL d)) := List.replicate n (nopD d)
theorem Marks.row {w : World} {b n : Nat} (h : Marks w b n n) (d lo len cap : Nat) (hl : lo + len ≤ n) (hn : n ≤ 9223372036854775807) : Row 7 (InsAt w (At w d)) (.slice (some ⟨b, lo * 7, none⟩) len cap) (nops d len) := by
  refine ⟨by simp [nops]; omega, .inr ⟨b, lo * 7, cap, by simp [nops], fun i x hx => ?_⟩⟩
  have hi : i < len := by have := (List.getElem?_eq_some_iff.1 hx).1; simpa [nops] using this
  have hxe : x = nopD d := by
    have := List.mem_of_getElem? hx
    exact (List.mem_replicate.1 this).2
  subst hxe
  have e : lo * 7 + i * 7 = (lo + i) * 7 := by omega
  rw [e]
  have ho := h.op (lo + i) (by omega)
  rw [if_pos (by omega)] at ho
  exact ⟨ho, h.a _ (by omega), h.b' _ (by omega), h.n' _ (by omega), ⟨_, h.l _ (by omega), row_nil _ _⟩, ⟨_, h.y _ (by omega), at_no _ _ _⟩, ⟨_, h.e _ (by omega), at_no _ _ _⟩⟩
/-- counts of so many of the same -/
theorem goI_nops {σ : Type} (step : σ → Sn → Nat → Option σ) (d n k : Nat) (s : σ) (f : Nat → σ) (h0 : f 0 = s) (hs : ∀ i, i < n → step (f i) (sn (nopD d)) k = some (f (i + 1))) : goI step (d + 1) (nops d n) k s = some (f n) := by
  have key : ∀ m i, i + m = n → goL (fun s x => step s (sn x) k) (fun y s => goI step d y (k + 1) s) (List.replicate m (nopD d)) (f i) = some (f n) := by
    intro m
    induction m with
    | zero =>
      intro i hi
      obtain rfl : i = n := by omega
      rfl
    | succ m ih =>
      intro i hi
      rw [List.replicate_succ]
      show (step (f i) (sn (nopD d)) k).bind (fun s1 => (goI step d (noI d) (k + 1) s1).bind fun s2 => (goI step d (noI d) (k + 1) s2).bind fun s3 => goL _ _ (List.replicate m (nopD d)) s3) = _
      rw [hs i (by omega), Option.bind_some, goI_no, Option.bind_some, goI_no, Option.bind_some]
      exact ih (i + 1) (by omega)
  rw [← h0]
  exact key n 0 (by omega)
theorem ok_nopD (d : Nat) : okS (sn (nopD d)) = true := by
  show okF (form 1) 1 0 0 0 [] (size d (noI d)) (size d (noI d)) = true
  rw [size_no, show form 1 = 1 by decide]
  rfl
end Rep
end Go.Proofs.YtmedpblpcfobdaaDoor
