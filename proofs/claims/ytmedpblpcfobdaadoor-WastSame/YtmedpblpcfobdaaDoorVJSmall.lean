/- VJSmall: several texts in one. -/
import Derived.Test.YtmedpblpcfobdaaDoorVJRep
import Derived.Deep.RegionWith
import Derived.Deep.Cut
/- What the document's own small looks at numbers and lists of numbers tell: the plain functions; nothing is touched. -/
namespace Go.Proofs.YtmedpblpcfobdaaDoor
open Go.RowKit Rep
set_option linter.unusedVariables false

namespace Rep
theorem hideM {p : Prop} (h : p) : Hid p := h
def idx (n : Int) : Bool := decide (0 ≤ n ∧ n ≤ 4294967295)
def typ (n : Int) : Bool := decide (n = 126 ∨ n = 127)
theorem all_end {α : Type} {p : α → Bool} {l : List α} {k : Nat} {r : Bool} (hk : ¬ k < l.length) (h : r = (l.drop k).all p) : r = true := by
  rw [h, List.drop_of_length_le (by omega)]; rfl
theorem all_on {α : Type} {p : α → Bool} {l : List α} {k : Nat} {r : Bool} {x : α} (hx : l[k]? = some x) (h : r = (l.drop k).all p) : r = (p x && (l.drop (k + 1)).all p) := by
  have hl : k < l.length := (List.getElem?_eq_some_iff.1 hx).1
  have he : l[k] = x := (List.getElem?_eq_some_iff.1 hx).2
  rw [h, List.drop_eq_getElem_cons hl, he, List.all_cons]
theorem retB {a b : Bool} (h : a = b) : Ending.returned (.bool a) = .returned (.bool b) := by rw [h]
end Rep

set_option maxHeartbeats 400000 in
theorem refIndex (n : Int) (w : World) : Calls Tryd.prog 75 #[.int .i64 n] w fun e w' => e = .returned (.bool (idx n)) ∧ w' = w := by
  go_enter Tryd.func75, Tryd.ntmps75
  go_wp2
  all_goals go_ret
  all_goals refine ⟨retB ?_, rfl⟩
  all_goals (unfold idx; rw [Bool.eq_iff_iff]; simp only [decide_eq_true_eq]; first | omega | (simp; omega))

set_option maxHeartbeats 400000 in
theorem refIn (n a b : Int) (w : World) : Calls Tryd.prog 24 #[.int .i64 n, .int .i64 a, .int .i64 b] w fun e w' => e = .returned (.bool (decide (a ≤ n ∧ n ≤ b))) ∧ w' = w := by
  go_enter Tryd.func24, Tryd.ntmps24
  go_wp2
  all_goals go_ret
  all_goals refine ⟨retB ?_, rfl⟩
  all_goals first | rfl | (rw [Bool.eq_iff_iff]; simp; done) | (rw [Bool.eq_iff_iff]; simp; omega) | (symm; simp; omega)

set_option maxHeartbeats 1000000 in
theorem refIndices (v : Value) (l : List Int) (w : World) (hAt : Ints w v l) :
    Calls Tryd.prog 78 #[v] w fun e w' => e = .returned (.bool (l.all idx)) ∧ w' = w := by
  have hlen := hAt.1
  obtain ⟨o, cap, hv⟩ := Row.len hAt
  have hs := Row.some hAt
  subst hv
  obtain ⟨R, hR⟩ : ∃ R, R = l.all idx := ⟨_, rfl⟩
  rw [← hR]
  have HR : Hid (R = (l.drop 0).all idx) := hR
  have HX := hideM hs
  clear hs hAt hR
  generalize hn : l.length = n at *
  go_enter Tryd.func78, Tryd.ntmps78
  go_wp2_with fail
  go_loopw [3] (fun i wr => ∃ k : Nat, k ≤ n ∧ i = .int .i64 k ∧ R = (l.drop k).all idx ∧ wr = w) (fun i _ => n - (intOf i).toNat)
  case atStart => exact ⟨0, by omega, rfl, HR.out, rfl⟩
  case round =>
    obtain ⟨k, hk, rfl, hrr, rfl⟩ := hrel
    have HK := hideM hrr
    clear hrr
    by_cases hgo : k < n
    · obtain ⟨b, off, cap2, hv2, hx⟩ := HX.out (by omega)
      injection hv2 with ho h2 h3
      subst ho
      obtain ⟨x, hxk⟩ : ∃ x, l[k]? = some x := ⟨_, List.getElem?_eq_getElem (by omega)⟩
      have hc := hx k x hxk
      rw [Nat.mul_one] at hc
      have HN := all_on hxk HK.out
      have i1 := hideM (refIndex x wr)
      clear hx hxk HK HX h2 h3
      generalize idx x = r1 at *
      have HN' := hideM HN
      clear HN
      go_wp2_with fail
      refine i1.out.mono ?_
      rintro e w1 ⟨rfl, rfl⟩
      cases r1
      · have hfin : R = false := by rw [HN'.out]; rfl
        go_wp2
        go_ret
        exact ⟨by first | rfl | (rw [hfin]; rfl), rfl⟩
      · go_wp2
        go_roundw
        case rel => exact ⟨k + 1, by omega, by go_num, by rw [HN'.out]; rfl, trivial⟩
        case measure => simp [intOf]; omega
    · have HE := all_end (by omega) HK.out
      clear HK
      go_wp2
      go_ret
      exact ⟨by first | rfl | (rw [HE]; rfl), rfl⟩

set_option maxHeartbeats 1000000 in
theorem refTypes (v : Value) (l : List Int) (w : World) (hAt : Ints w v l) :
    Calls Tryd.prog 74 #[v] w fun e w' => e = .returned (.bool (l.all typ)) ∧ w' = w := by
  have hlen := hAt.1
  obtain ⟨o, cap, hv⟩ := Row.len hAt
  have hs := Row.some hAt
  subst hv
  obtain ⟨R, hR⟩ : ∃ R, R = l.all typ := ⟨_, rfl⟩
  rw [← hR]
  have HR : Hid (R = (l.drop 0).all typ) := hR
  have HX := hideM hs
  clear hs hAt hR
  generalize hn : l.length = n at *
  go_enter Tryd.func74, Tryd.ntmps74
  go_wp2_with fail
  go_loopw [3] (fun i wr => ∃ k : Nat, k ≤ n ∧ i = .int .i64 k ∧ R = (l.drop k).all typ ∧ wr = w) (fun i _ => n - (intOf i).toNat)
  case atStart => exact ⟨0, by omega, rfl, HR.out, rfl⟩
  case round =>
    obtain ⟨k, hk, rfl, hrr, rfl⟩ := hrel
    have HK := hideM hrr
    clear hrr
    by_cases hgo : k < n
    · obtain ⟨b, off, cap2, hv2, hx⟩ := HX.out (by omega)
      injection hv2 with ho h2 h3
      subst ho
      obtain ⟨x, hxk⟩ : ∃ x, l[k]? = some x := ⟨_, List.getElem?_eq_getElem (by omega)⟩
      have hc := hx k x hxk
      rw [Nat.mul_one] at hc
      have HN := all_on hxk HK.out
      clear hx hxk HK HX h2 h3
      by_cases h1 : x = 126
      · have ht : typ x = true := by simp [typ, h1]
        rw [ht, Bool.true_and] at HN
        have HN' := hideM HN
        have hb : (x != 126) = false := by simp [h1]
        clear HN h1 ht
        go_wp2
        go_roundw
        case rel => exact ⟨k + 1, by omega, by go_num, HN'.out, trivial⟩
        case measure => simp [intOf]; omega
      · by_cases h2 : x = 127
        · have ht : typ x = true := by simp [typ, h2]
          rw [ht, Bool.true_and] at HN
          have HN' := hideM HN
          have hb : (x != 126) = true := by simp [h1]
          have hb2 : (x != 127) = false := by simp [h2]
          clear HN h1 ht h2
          go_wp2
          go_roundw
          case rel => exact ⟨k + 1, by omega, by go_num, HN'.out, trivial⟩
          case measure => simp [intOf]; omega
        · have ht : typ x = false := by simp [typ, h1, h2]
          rw [ht, Bool.false_and] at HN
          have hb : (x != 126) = true := by simp [h1]
          have hb2 : (x != 127) = true := by simp [h2]
          clear h1 ht h2
          go_wp2
          go_ret
          exact ⟨by first | rfl | (rw [HN]; rfl), rfl⟩
    · have HE := all_end (by omega) HK.out
      clear HK
      go_wp2
      go_ret
      exact ⟨by first | rfl | (rw [HE]; rfl), rfl⟩
end Go.Proofs.YtmedpblpcfobdaaDoor

/- The program's way to give up, and its small looks at numbers: either they come back and nothing has happened, or they give up with the error. -/
namespace Go.Proofs.YtmedpblpcfobdaaDoor
open Go.RowKit Rep
set_option linter.unusedVariables false

/-- what is given up with -/
def gave (k : Int) : List PanicEntry := [{ v := .iface 39 (.int .i64 k), recovered := false }]
/-- an ending that comes back, or gives up with that error -/
def Needs (ok : Bool) (k : Int) (e : Ending) : Prop := (ok = true ∧ e = .returned (.tuple #[])) ∨ (ok = false ∧ e = .panicked (gave k))

set_option maxHeartbeats 400000 in
theorem pNeed (c : Bool) (k : Int) (w : World) : Calls Tryd.prog 36 #[.bool c, .int .i64 k] w fun e w' => Needs c k e ∧ w' = w := by
  cases c
  · go_enter Tryd.func36, Tryd.ntmps36
    go_wp2
    exact ⟨rfl, .inr ⟨rfl, rfl⟩, rfl⟩
  · go_enter Tryd.func36, Tryd.ntmps36
    go_wp2
    go_end0
    exact ⟨.inl ⟨rfl, rfl⟩, rfl⟩
end Go.Proofs.YtmedpblpcfobdaaDoor

/- The program's walk over the instructions of a module: each is seen ahead of those in it. -/
namespace Go.Proofs.YtmedpblpcfobdaaDoor
open Go.RowKit Rep
set_option linter.unusedVariables false
namespace Rep

/-- what a seen instruction shows -/
structure Sn where
  op : Int
  a : Int
  b : Int
  n : Int
  labels : List Int
  nb : Nat
  ne : Nat
def sn {d : Nat} (x : Ins (IL d)) : Sn := ⟨x.op, x.a, x.b, x.n, x.labels, size d x.body, size d x.els⟩
def goL {α σ : Type} (step : σ → Ins α → Option σ) (sub : α → σ → Option σ) : List (Ins α) → σ → Option σ
  | [], s => some s
  | x :: r, s => (step s x).bind fun s1 => (sub x.body s1).bind fun s2 => (sub x.els s2).bind fun s3 => goL step sub r s3
def goI {σ : Type} (step : σ → Sn → Nat → Option σ) : (d : Nat) → IL d → Nat → σ → Option σ
  | 0, _, _, s => some s
  | d + 1, l, k, s => goL (fun s x => step s (sn x) k) (fun y s => goI step d y (k + 1) s) l s
/-- what is left of the walk from the j-th instruction on -/
def rest {σ : Type} (step : σ → Sn → Nat → Option σ) (d : Nat) (l : List (Ins (IL d))) (k j : Nat) (s : σ) : Option σ :=
  goL (fun s x => step s (sn x) k) (fun y s => goI step d y (k + 1) s) (l.drop j) s
theorem rest_end {σ : Type} {step : σ → Sn → Nat → Option σ} {d : Nat} {l : List (Ins (IL d))} {k j : Nat} {s : σ} (h : l.length ≤ j) : rest step d l k j s = some s := by
  unfold rest; rw [List.drop_of_length_le h]; rfl
theorem rest_on {σ : Type} {step : σ → Sn → Nat → Option σ} {d : Nat} {l : List (Ins (IL d))} {k j : Nat} {s : σ} {x : Ins (IL d)} (hx : l[j]? = some x) :
    rest step d l k j s = (step s (sn x) k).bind fun s1 => (goI step d x.body (k + 1) s1).bind fun s2 => (goI step d x.els (k + 1) s2).bind fun s3 => rest step d l k (j + 1) s3 := by
  have hl : j < l.length := (List.getElem?_eq_some_iff.1 hx).1
  have he : l[j] = x := (List.getElem?_eq_some_iff.1 hx).2
  unfold rest
  rw [List.drop_eq_getElem_cons hl, he]
  rfl
/-- all blocks but those of S are as they were -/
structure Kp (S : Nat → Prop) (w w' : World) : Prop where
  os : w'.os = w.os
  tape : w'.tape = w.tape
  output : w'.output = w.output
  size : w.heap.size ≤ w'.heap.size
  block : ∀ k, k < w.heap.size → ¬ S k → w'.heap[k]? = w.heap[k]?
theorem Kp.refl (S : Nat → Prop) (w : World) : Kp S w w := ⟨rfl, rfl, rfl, Nat.le_refl _, fun _ _ _ => rfl⟩
theorem Kp.trans {S : Nat → Prop} {a b c : World} (h : Kp S a b) (k : Kp S b c) : Kp S a c :=
  ⟨k.os.trans h.os, k.tape.trans h.tape, k.output.trans h.output, Nat.le_trans h.size k.size, fun i hi hs => (k.block i (Nat.lt_of_lt_of_le hi h.size) hs).trans (h.block i hi hs)⟩
theorem Kp.of_below {S : Nat → Prop} {a b : World} (h : Below a.heap.size a b) : Kp S a b := ⟨h.os, h.tape, h.output, h.size, fun i hi _ => h.block i hi⟩
theorem Kp.alloc {S : Nat → Prop} {a b : World} (h : Kp S a b) (o : Obj) : Kp S a (b.alloc o) := h.trans (Kp.of_below ((Below.refl _ b).alloc (Nat.le_refl _) o))
theorem Kp.to_below {w w' : World} (h : Kp (fun _ => False) w w') : Below w.heap.size w w' := ⟨h.os, h.tape, h.output, h.size, fun k hk => h.block k hk fun hs => hs⟩
theorem Kp.below {S : Nat → Prop} {w0 a b : World} (hS : ∀ k, S k → w0.heap.size ≤ k) (h0 : Below w0.heap.size w0 a) (h : Kp S a b) : Below w0.heap.size w0 b :=
  h0.trans ⟨h.os, h.tape, h.output, h.size, fun k hk => h.block k (Nat.lt_of_lt_of_le hk h0.size) fun hs => absurd (hS k hs) (by omega)⟩
theorem Kp.cell {S : Nat → Prop} {a b : World} (h : Kp S a b) {p : Addr} (hp : p.block < a.heap.size) (hs : ¬ S p.block) : b.cell? p = a.cell? p := World.cell?_of_block (w := a) (h.block p.block hp hs)
theorem new_cell (w : World) (xs : Array Value) (t : TypeId) (i : Nat) (v : Value) (h : xs[i]? = some v) : (w.alloc (.cells xs t)).cell? ⟨w.heap.size, i, none⟩ = some v := by
  rw [World.cell?_alloc_at xs t _ i rfl]; exact h
theorem size_alloc (w : World) (o : Obj) : (w.alloc o).heap.size = w.heap.size + 1 := by simp
end Rep

/-- what is seen of an instruction by a function of the program, in worlds that are w0 and new memory -/
def SeeC {σ : Type} (f : FuncId) (args : Value → Value → Array Value) (w0 : World) (S : Nat → Prop) (Inv : σ → World → Prop) (step : σ → Sn → Nat → Option σ) (k : Int) : Prop :=
  ∀ (s : σ) (x : Sn) (lv bv ev : Value) (dep : Nat) (w : World), Below w0.heap.size w0 w → Inv s w → Ints w lv x.labels → (∃ o c, bv = .slice o x.nb c) → (∃ o c, ev = .slice o x.ne c) → dep ≤ 4611686018427387904 →
    Calls Tryd.prog f (args (.agg #[.int .i64 x.op, .int .i64 x.a, .int .i64 x.b, .int .i64 x.n, lv, bv, ev]) (.int .i64 dep)) w fun e w' =>
      Kp S w w' ∧ ((∃ s', step s x dep = some s' ∧ e = .returned (.tuple #[]) ∧ Inv s' w') ∨ (step s x dep = none ∧ e = .panicked (gave k)))

def WalkSays {σ : Type} (fv : Value) (w0 : World) (S : Nat → Prop) (Inv : σ → World → Prop) (step : σ → Sn → Nat → Option σ) (k : Int) (d : Nat) : Prop :=
  ∀ (v : Value) (l : IL d) (dep : Nat) (s : σ) (w : World), At w0 d v l → Below w0.heap.size w0 w → Inv s w → (∀ k, S k → k < w.heap.size) → dep + d ≤ 4611686018427387904 →
    Calls Tryd.prog 66 #[v, .int .i64 dep, fv] w fun e w' =>
      Kp S w w' ∧ ((∃ s', goI step d l dep s = some s' ∧ e = .returned (.tuple #[]) ∧ Inv s' w') ∨ (goI step d l dep s = none ∧ e = .panicked (gave k)))
end Go.Proofs.YtmedpblpcfobdaaDoor
