/- Tokens: the document's numbers. -/
import Derived.Test.YtagoajoaojakhaaDoorA5
namespace Go.Proofs.YtagoajoaojakhaaDoor
open Go.RowKit Lx
set_option linter.unusedVariables false
namespace Lx
theorem vl_pow (s : ByteArray) (i : Nat) : ∀ (k : Nat), (∀ j, i ≤ j → j < i + k → dg (bt s j) = true) → 0 ≤ vlF s k i 0 ∧ vlF s k i 0 < 10 ^ k
  | 0, _ => ⟨Int.le_refl _, by show (0 : Int) < 10 ^ 0; decide⟩
  | k + 1, h => by
    have ih := vl_pow s i k fun j h1 h2 => h j h1 (by omega)
    have hd := dg_bd (h (i + k) (by omega) (by omega))
    rw [vlF_snoc, Int.pow_succ]
    omega
theorem vl_bd (s : ByteArray) (i k : Nat) (hk : k ≤ 10) (h : ∀ j, i ≤ j → j < i + k → dg (bt s j) = true) : 0 ≤ vlF s k i 0 ∧ vlF s k i 0 ≤ 9999999999 := by
  have := vl_pow s i k h
  have hc : k = 0 ∨ k = 1 ∨ k = 2 ∨ k = 3 ∨ k = 4 ∨ k = 5 ∨ k = 6 ∨ k = 7 ∨ k = 8 ∨ k = 9 ∨ k = 10 := by omega
  generalize vlF s k i 0 = V at *
  rcases hc with rfl | rfl | rfl | rfl | rfl | rfl | rfl | rfl | rfl | rfl | rfl <;> omega
/-- what the document's number tells -/
def NumS (s : ByteArray) (a f : Nat) (K : Int) (T : ByteArray) (N A E : Int) (ok : Bool) : Prop :=
  match num s a f with
  | some (n, e) => K = 4 ∧ T = ⟨#[]⟩ ∧ N = n ∧ A = a ∧ E = e ∧ ok = true
  | none => ok = false
theorem numS_no {s : ByteArray} {a f : Nat} (h : en s dg f = f ∨ (1 < en s dg f - f ∧ bt s f = 48) ∨ 10 < en s dg f - f) {K : Int} {T : ByteArray} {N A E : Int} : NumS s a f K T N A E false := by
  unfold NumS num; rw [if_pos h]
theorem numS_yes {s : ByteArray} {a f : Nat} (h : ¬ (en s dg f = f ∨ (1 < en s dg f - f ∧ bt s f = 48) ∨ 10 < en s dg f - f)) {V : Int} (hV : (if a < f then -vlF s (en s dg f - f) f 0 else vlF s (en s dg f - f) f 0) = V) {E : Int} (hE : E = en s dg f) : NumS s a f 4 ⟨#[]⟩ V a E (isIn V) := by
  unfold NumS num
  rw [if_neg h, hV]
  cases hi : isIn V with
  | true => rw [if_pos rfl]; exact ⟨rfl, rfl, rfl, rfl, hE, rfl⟩
  | false => rw [if_neg (by decide)]
def NumP (P : Int → ByteArray → Int → Int → Int → Bool → Prop) (e : Ending) : Prop :=
  ∃ K T N A E ok, e = .returned (.tuple #[.agg #[.int .i64 K, .string T, .int .i64 N, .int .i64 A], .int .i64 E, .bool ok]) ∧ P K T N A E ok
end Lx
end Go.Proofs.YtagoajoaojakhaaDoor
