/- The program's walk over the instructions of a module: each is seen ahead of those in it. -/
import Derived.Test.YtloelineidlenaaGreatDoorW0
import Derived.Test.YtloelineidlenaaGreatDoorMod
import Derived.Deep.Cut
namespace Go.Proofs.YtloelineidlenaaGreatDoor
open Go.RowKit Rep
set_option linter.unusedVariables false
namespace Rep

/-- what a seen instruction shows -/
structure Sn where
  op : Int
  a : Int
  b : Int
  n : Int
  labels : List Int
  nb : Nat
  ne : Nat
def sn {d : Nat} (x : Ins (IL d)) : Sn := ⟨x.op, x.a, x.b, x.n, x.labels, size d x.body, size d x.els⟩
def goL {α σ : Type} (step : σ → Ins α → Option σ) (sub : α → σ → Option σ) : List (Ins α) → σ → Option σ
  | [], s => some s
  | x :: r, s => (step s x).bind fun s1 => (sub x.body s1).bind fun s2 => (sub x.els s2).bind fun s3 => goL step sub r s3
def goI {σ : Type} (step : σ → Sn → Nat → Option σ) : (d : Nat) → IL d → Nat → σ → Option σ
  | 0, _, _, s => some s
  | d + 1, l, k, s => goL (fun s x => step s (sn x) k) (fun y s => goI step d y (k + 1) s) l s
/-- what is left of the walk from the j-th instruction on -/
def rest {σ : Type} (step : σ → Sn → Nat → Option σ) (d : Nat) (l : List (Ins (IL d))) (k j : Nat) (s : σ) : Option σ :=
  goL (fun s x => step s (sn x) k) (fun y s => goI step d y (k + 1) s) (l.drop j) s
theorem rest_end {σ : Type} {step : σ → Sn → Nat → Option σ} {d : Nat} {l : List (Ins (IL d))} {k j : Nat} {s : σ} (h : l.length ≤ j) : rest step d l k j s = some s := by
  unfold rest; rw [List.drop_of_length_le h]; rfl
theorem rest_on {σ : Type} {step : σ → Sn → Nat → Option σ} {d : Nat} {l : List (Ins (IL d))} {k j : Nat} {s : σ} {x : Ins (IL d)} (hx : l[j]? = some x) :
    rest step d l k j s = (step s (sn x) k).bind fun s1 => (goI step d x.body (k + 1) s1).bind fun s2 => (goI step d x.els (k + 1) s2).bind fun s3 => rest step d l k (j + 1) s3 := by
  have hl : j < l.length := (List.getElem?_eq_some_iff.1 hx).1
  have he : l[j] = x := (List.getElem?_eq_some_iff.1 hx).2
  unfold rest
  rw [List.drop_eq_getElem_cons hl, he]
  rfl
/-- all blocks but those of S are as they were -/
structure Kp (S : Nat → Prop) (w w' : World) : Prop where
  os : w'.os = w.os
  tape : w'.tape = w.tape
  output : w'.output = w.output
  size : w.heap.size ≤ w'.heap.size
  block : ∀ k, k < w.heap.size → ¬ S k → w'.heap[k]? = w.heap[k]?
theorem Kp.refl (S : Nat → Prop) (w : World) : Kp S w w := ⟨rfl, rfl, rfl, Nat.le_refl _, fun _ _ _ => rfl⟩
theorem Kp.trans {S : Nat → Prop} {a b c : World} (h : Kp S a b) (k : Kp S b c) : Kp S a c :=
  ⟨k.os.trans h.os, k.tape.trans h.tape, k.output.trans h.output, Nat.le_trans h.size k.size, fun i hi hs => (k.block i (Nat.lt_of_lt_of_le hi h.size) hs).trans (h.block i hi hs)⟩
theorem Kp.of_below {S : Nat → Prop} {a b : World} (h : Below a.heap.size a b) : Kp S a b := ⟨h.os, h.tape, h.output, h.size, fun i hi _ => h.block i hi⟩
theorem Kp.alloc {S : Nat → Prop} {a b : World} (h : Kp S a b) (o : Obj) : Kp S a (b.alloc o) := h.trans (Kp.of_below ((Below.refl _ b).alloc (Nat.le_refl _) o))
theorem Kp.to_below {w w' : World} (h : Kp (fun _ => False) w w') : Below w.heap.size w w' := ⟨h.os, h.tape, h.output, h.size, fun k hk => h.block k hk fun hs => hs⟩
theorem Kp.below {S : Nat → Prop} {w0 a b : World} (hS : ∀ k, S k → w0.heap.size ≤ k) (h0 : Below w0.heap.size w0 a) (h : Kp S a b) : Below w0.heap.size w0 b :=
  h0.trans ⟨h.os, h.tape, h.output, h.size, fun k hk => h.block k (Nat.lt_of_lt_of_le hk h0.size) fun hs => absurd (hS k hs) (by omega)⟩
theorem Kp.cell {S : Nat → Prop} {a b : World} (h : Kp S a b) {p : Addr} (hp : p.block < a.heap.size) (hs : ¬ S p.block) : b.cell? p = a.cell? p := World.cell?_of_block (w := a) (h.block p.block hp hs)
theorem new_cell (w : World) (xs : Array Value) (t : TypeId) (i : Nat) (v : Value) (h : xs[i]? = some v) : (w.alloc (.cells xs t)).cell? ⟨w.heap.size, i, none⟩ = some v := by
  rw [World.cell?_alloc_at xs t _ i rfl]; exact h
theorem size_alloc (w : World) (o : Obj) : (w.alloc o).heap.size = w.heap.size + 1 := by simp
end Rep

/-- what is seen of an instruction by a function of the program, in worlds that are w0 and new memory -/
def SeeC {σ : Type} (f : FuncId) (args : Value → Value → Array Value) (w0 : World) (S : Nat → Prop) (Inv : σ → World → Prop) (step : σ → Sn → Nat → Option σ) (k : Int) : Prop :=
  ∀ (s : σ) (x : Sn) (lv bv ev : Value) (dep : Nat) (w : World), Below w0.heap.size w0 w → Inv s w → Ints w lv x.labels → (∃ o c, bv = .slice o x.nb c) → (∃ o c, ev = .slice o x.ne c) → dep ≤ 4611686018427387904 →
    Calls Tryz.prog f (args (.agg #[.int .i64 x.op, .int .i64 x.a, .int .i64 x.b, .int .i64 x.n, lv, bv, ev]) (.int .i64 dep)) w fun e w' =>
      Kp S w w' ∧ ((∃ s', step s x dep = some s' ∧ e = .returned (.tuple #[]) ∧ Inv s' w') ∨ (step s x dep = none ∧ e = .panicked (gave k)))

def WalkSays {σ : Type} (fv : Value) (w0 : World) (S : Nat → Prop) (Inv : σ → World → Prop) (step : σ → Sn → Nat → Option σ) (k : Int) (d : Nat) : Prop :=
  ∀ (v : Value) (l : IL d) (dep : Nat) (s : σ) (w : World), At w0 d v l → Below w0.heap.size w0 w → Inv s w → (∀ k, S k → k < w.heap.size) → dep + d ≤ 4611686018427387904 →
    Calls Tryz.prog 77 #[v, .int .i64 dep, fv] w fun e w' =>
      Kp S w w' ∧ ((∃ s', goI step d l dep s = some s' ∧ e = .returned (.tuple #[]) ∧ Inv s' w') ∨ (goI step d l dep s = none ∧ e = .panicked (gave k)))
end Go.Proofs.YtloelineidlenaaGreatDoor
