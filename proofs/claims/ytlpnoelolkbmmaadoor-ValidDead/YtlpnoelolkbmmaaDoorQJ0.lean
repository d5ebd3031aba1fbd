/- QJ0: several texts in one. -/
import Derived.Test.YtlpnoelolkbmmaaDoorGV
import Derived.Deep.RegionWith
import Derived.Test.YtlpnoelolkbmmaaDoorMod
import Derived.Deep.Cut
namespace Go.Proofs.YtlpnoelolkbmmaaDoor
open Go.RowKit Rep
set_option linter.unusedVariables false

set_option maxHeartbeats 400000 in
theorem pNeed (c : Bool) (k : Int) (w : World) : Calls Tryd.prog 30 #[.bool c, .int .i64 k] w fun e w' => Needs c k e ∧ w' = w := by
  cases c
  · go_enter Tryd.func30, Tryd.ntmps30
    go_wp2
    exact ⟨rfl, .inr ⟨rfl, rfl⟩, rfl⟩
  · go_enter Tryd.func30, Tryd.ntmps30
    go_wp2
    go_end0
    exact ⟨.inl ⟨rfl, rfl⟩, rfl⟩
end Go.Proofs.YtlpnoelolkbmmaaDoor

namespace Go.Proofs.YtlpnoelolkbmmaaDoor
open Go.RowKit Rep
set_option linter.unusedVariables false
namespace Rep

structure Sn where
  op : Int
  a : Int
  b : Int
  n : Int
  labels : List Int
  nb : Nat
  ne : Nat
def sn {d : Nat} (x : Ins (IL d)) : Sn := ⟨x.op, x.a, x.b, x.n, x.labels, size d x.body, size d x.els⟩
def goL {α σ : Type} (step : σ → Ins α → Option σ) (sub : α → σ → Option σ) : List (Ins α) → σ → Option σ
  | [], s => some s
  | x :: r, s => (step s x).bind fun s1 => (sub x.body s1).bind fun s2 => (sub x.els s2).bind fun s3 => goL step sub r s3
def goI {σ : Type} (step : σ → Sn → Nat → Option σ) : (d : Nat) → IL d → Nat → σ → Option σ
  | 0, _, _, s => some s
  | d + 1, l, k, s => goL (fun s x => step s (sn x) k) (fun y s => goI step d y (k + 1) s) l s
def rest {σ : Type} (step : σ → Sn → Nat → Option σ) (d : Nat) (l : List (Ins (IL d))) (k j : Nat) (s : σ) : Option σ :=
  goL (fun s x => step s (sn x) k) (fun y s => goI step d y (k + 1) s) (l.drop j) s
theorem rest_end {σ : Type} {step : σ → Sn → Nat → Option σ} {d : Nat} {l : List (Ins (IL d))} {k j : Nat} {s : σ} (h : l.length ≤ j) : rest step d l k j s = some s := by
  unfold rest; rw [List.drop_of_length_le h]; rfl
theorem rest_on {σ : Type} {step : σ → Sn → Nat → Option σ} {d : Nat} {l : List (Ins (IL d))} {k j : Nat} {s : σ} {x : Ins (IL d)} (hx : l[j]? = some x) :
    rest step d l k j s = (step s (sn x) k).bind fun s1 => (goI step d x.body (k + 1) s1).bind fun s2 => (goI step d x.els (k + 1) s2).bind fun s3 => rest step d l k (j + 1) s3 := by
  have hl : j < l.length := (List.getElem?_eq_some_iff.1 hx).1
  have he : l[j] = x := (List.getElem?_eq_some_iff.1 hx).2
  unfold rest
  rw [List.drop_eq_getElem_cons hl, he]
  rfl
structure Kp (S : Nat → Prop) (w w' : World) : Prop where
  os : w'.os = w.os
  tape : w'.tape = w.tape
  output : w'.output = w.output
  size : w.heap.size ≤ w'.heap.size
  block : ∀ k, k < w.heap.size → ¬ S k → w'.heap[k]? = w.heap[k]?
theorem Kp.refl (S : Nat → Prop) (w : World) : Kp S w w := ⟨rfl, rfl, rfl, Nat.le_refl _, fun _ _ _ => rfl⟩
theorem Kp.trans {S : Nat → Prop} {a b c : World} (h : Kp S a b) (k : Kp S b c) : Kp S a c :=
  ⟨k.os.trans h.os, k.tape.trans h.tape, k.output.trans h.output, Nat.le_trans h.size k.size, fun i hi hs => (k.block i (Nat.lt_of_lt_of_le hi h.size) hs).trans (h.block i hi hs)⟩
theorem Kp.of_below {S : Nat → Prop} {a b : World} (h : Below a.heap.size a b) : Kp S a b := ⟨h.os, h.tape, h.output, h.size, fun i hi _ => h.block i hi⟩
theorem Kp.alloc {S : Nat → Prop} {a b : World} (h : Kp S a b) (o : Obj) : Kp S a (b.alloc o) := h.trans (Kp.of_below ((Below.refl _ b).alloc (Nat.le_refl _) o))
theorem Kp.to_below {w w' : World} (h : Kp (fun _ => False) w w') : Below w.heap.size w w' := ⟨h.os, h.tape, h.output, h.size, fun k hk => h.block k hk fun hs => hs⟩
theorem Kp.below {S : Nat → Prop} {w0 a b : World} (hS : ∀ k, S k → w0.heap.size ≤ k) (h0 : Below w0.heap.size w0 a) (h : Kp S a b) : Below w0.heap.size w0 b :=
  h0.trans ⟨h.os, h.tape, h.output, h.size, fun k hk => h.block k (Nat.lt_of_lt_of_le hk h0.size) fun hs => absurd (hS k hs) (by omega)⟩
theorem Kp.cell {S : Nat → Prop} {a b : World} (h : Kp S a b) {p : Addr} (hp : p.block < a.heap.size) (hs : ¬ S p.block) : b.cell? p = a.cell? p := World.cell?_of_block (w := a) (h.block p.block hp hs)
theorem new_cell (w : World) (xs : Array Value) (t : TypeId) (i : Nat) (v : Value) (h : xs[i]? = some v) : (w.alloc (.cells xs t)).cell? ⟨w.heap.size, i, none⟩ = some v := by
  rw [World.cell?_alloc_at xs t _ i rfl]; exact h
theorem size_alloc (w : World) (o : Obj) : (w.alloc o).heap.size = w.heap.size + 1 := by simp
end Rep

def SeeC {σ : Type} (f : FuncId) (args : Value → Value → Array Value) (w0 : World) (S : Nat → Prop) (Inv : σ → World → Prop) (step : σ → Sn → Nat → Option σ) (k : Int) : Prop :=
  ∀ (s : σ) (x : Sn) (lv bv ev : Value) (dep : Nat) (w : World), Below w0.heap.size w0 w → Inv s w → Ints w lv x.labels → (∃ o c, bv = .slice o x.nb c) → (∃ o c, ev = .slice o x.ne c) → dep ≤ 4611686018427387904 →
    Calls Tryd.prog f (args (.agg #[.int .i64 x.op, .int .i64 x.a, .int .i64 x.b, .int .i64 x.n, lv, bv, ev]) (.int .i64 dep)) w fun e w' =>
      Kp S w w' ∧ ((∃ s', step s x dep = some s' ∧ e = .returned (.tuple #[]) ∧ Inv s' w') ∨ (step s x dep = none ∧ e = .panicked (gave k)))

def WalkSays {σ : Type} (fv : Value) (w0 : World) (S : Nat → Prop) (Inv : σ → World → Prop) (step : σ → Sn → Nat → Option σ) (k : Int) (d : Nat) : Prop :=
  ∀ (v : Value) (l : IL d) (dep : Nat) (s : σ) (w : World), At w0 d v l → Below w0.heap.size w0 w → Inv s w → (∀ k, S k → k < w.heap.size) → dep + d ≤ 4611686018427387904 →
    Calls Tryd.prog 42 #[v, .int .i64 dep, fv] w fun e w' =>
      Kp S w w' ∧ ((∃ s', goI step d l dep s = some s' ∧ e = .returned (.tuple #[]) ∧ Inv s' w') ∨ (goI step d l dep s = none ∧ e = .panicked (gave k)))
end Go.Proofs.YtlpnoelolkbmmaaDoor

namespace Go.Proofs.YtlpnoelolkbmmaaDoor
open Go.RowKit Rep
set_option linter.unusedVariables false
namespace Rep
def few (n : Int) : Bool := decide (n ≤ 4096)
end Rep

set_option maxHeartbeats 1000000 in
theorem pneedShort (v : Value) (l : List Int) (w : World) (hAt : Ints w v l) :
    Calls Tryd.prog 28 #[v] w fun e w' => Needs (l.all few) 3 e ∧ w' = w := by
  have hlen := hAt.1
  obtain ⟨o, cap, hv⟩ := Row.len hAt
  have hs := Row.some hAt
  subst hv
  obtain ⟨R, hR⟩ : ∃ R, R = l.all few := ⟨_, rfl⟩
  rw [← hR]
  have HR : Hid (R = (l.drop 0).all few) := hR
  have HX := hideM hs
  clear hs hAt hR
  generalize hn : l.length = n at *
  go_enter Tryd.func28, Tryd.ntmps28
  go_wp2_with fail
  go_loopw [6] (fun i wr => ∃ j : Nat, j ≤ n ∧ i = .int .i64 j ∧ Hid (R = (l.drop j).all few) ∧ wr = w) (fun i _ => n - (RowKit.intOf i).toNat)
  case atStart => exact ⟨0, by omega, rfl, HR, rfl⟩
  case round =>
    obtain ⟨j, hj, rfl, HK, rfl⟩ := hrel
    by_cases hgo : j < n
    · obtain ⟨b, off, cap2, hv2, hx⟩ := HX.out (by omega)
      injection hv2 with ho h2 h3
      subst ho
      obtain ⟨x, hxk⟩ : ∃ x, l[j]? = some x := ⟨_, List.getElem?_eq_getElem (by omega)⟩
      have hc := hx j x hxk
      rw [Nat.mul_one] at hc
      have HN := hideM (all_on hxk HK.out)
      clear hx hxk HK HX h2 h3
      by_cases h1 : x ≤ 4096
      · have hp : few x = true := by simp [few, h1]
        have d1 : decide (x ≤ 4096) = true := by simp [h1]
        have HN' : Hid (R = (l.drop (j + 1)).all few) := by have := HN.out; rw [hp, Bool.true_and] at this; exact this
        clear HN hp
        go_wp2_with fail
        refine (pNeed true _ _).mono ?_
        rintro e u ⟨⟨_, rfl⟩ | ⟨hf, _⟩, rfl⟩
        · go_wp2
          go_roundw
          case rel => exact ⟨j + 1, by omega, by go_num, HN', trivial⟩
          case measure => simp [RowKit.intOf]; omega
        · cases hf
      · have hp : few x = false := by simp [few]; omega
        have d1 : decide (x ≤ 4096) = false := by simp; omega
        have HF : R = false := by have := HN.out; rw [hp, Bool.false_and] at this; exact this
        have HFF := hideM HF
        clear HN hp HF
        go_wp2_with fail
        refine (pNeed false _ _).mono ?_
        rintro e u ⟨⟨hf, _⟩ | ⟨_, rfl⟩, rfl⟩
        · cases hf
        · go_wp2
          exact ⟨rfl, .inr ⟨HFF.out, rfl⟩, rfl⟩
    · have HE : R = true := all_end (by omega) HK.out
      have HEE := hideM HE
      clear HE HK
      go_wp2
      go_end0
      exact ⟨.inl ⟨HEE.out, rfl⟩, rfl⟩

set_option maxHeartbeats 1000000 in
theorem pneedTypes (v : Value) (l : List Int) (w : World) (hAt : Ints w v l) :
    Calls Tryd.prog 43 #[v] w fun e w' => Needs (l.all typ) 30 e ∧ w' = w := by
  have hlen := hAt.1
  obtain ⟨o, cap, hv⟩ := Row.len hAt
  have hs := Row.some hAt
  subst hv
  obtain ⟨R, hR⟩ : ∃ R, R = l.all typ := ⟨_, rfl⟩
  rw [← hR]
  have HR : Hid (R = (l.drop 0).all typ) := hR
  have HX := hideM hs
  clear hs hAt hR
  generalize hn : l.length = n at *
  go_enter Tryd.func43, Tryd.ntmps43
  go_wp2_with fail
  go_loopw [6] (fun i wr => ∃ j : Nat, j ≤ n ∧ i = .int .i64 j ∧ Hid (R = (l.drop j).all typ) ∧ wr = w) (fun i _ => n - (RowKit.intOf i).toNat)
  case atStart => exact ⟨0, by omega, rfl, HR, rfl⟩
  case round =>
    obtain ⟨j, hj, rfl, HK, rfl⟩ := hrel
    by_cases hgo : j < n
    · obtain ⟨b, off, cap2, hv2, hx⟩ := HX.out (by omega)
      injection hv2 with ho h2 h3
      subst ho
      obtain ⟨x, hxk⟩ : ∃ x, l[j]? = some x := ⟨_, List.getElem?_eq_getElem (by omega)⟩
      have hc := hx j x hxk
      rw [Nat.mul_one] at hc
      have HN := hideM (all_on hxk HK.out)
      clear hx hxk HK HX h2 h3
      by_cases h1 : x = 127
      · have hp : typ x = true := by simp [typ, h1]
        have d1 : (x == 127) = true := by simp [h1]
        clear h1
        have HN' : Hid (R = (l.drop (j + 1)).all typ) := by have := HN.out; rw [hp, Bool.true_and] at this; exact this
        clear HN hp
        go_wp2_with fail
        refine (pNeed true _ _).mono ?_
        rintro e u ⟨⟨_, rfl⟩ | ⟨hf, _⟩, rfl⟩
        · go_wp2
          go_roundw
          case rel => exact ⟨j + 1, by omega, by go_num, HN', trivial⟩
          case measure => simp [RowKit.intOf]; omega
        · cases hf
      · have d1 : (x == 127) = false := by simp [h1]
        by_cases h2 : x = 126
        · have hp : typ x = true := by simp [typ, h2]
          have d2 : (x == 126) = true := by simp [h2]
          clear h1 h2
          have HN' : Hid (R = (l.drop (j + 1)).all typ) := by have := HN.out; rw [hp, Bool.true_and] at this; exact this
          clear HN hp
          go_wp2_with fail
          refine (pNeed true _ _).mono ?_
          rintro e u ⟨⟨_, rfl⟩ | ⟨hf, _⟩, rfl⟩
          · go_wp2
            go_roundw
            case rel => exact ⟨j + 1, by omega, by go_num, HN', trivial⟩
            case measure => simp [RowKit.intOf]; omega
          · cases hf
        · have hp : typ x = false := by simp [typ, h1, h2]
          have d2 : (x == 126) = false := by simp [h2]
          clear h1 h2
          have HF : R = false := by have := HN.out; rw [hp, Bool.false_and] at this; exact this
          have HFF := hideM HF
          clear HN hp HF
          go_wp2_with fail
          refine (pNeed false _ _).mono ?_
          rintro e u ⟨⟨hf, _⟩ | ⟨_, rfl⟩, rfl⟩
          · cases hf
          · go_wp2
            exact ⟨rfl, .inr ⟨HFF.out, rfl⟩, rfl⟩
    · have HE : R = true := all_end (by omega) HK.out
      have HEE := hideM HE
      clear HE HK
      go_wp2
      go_end0
      exact ⟨.inl ⟨HEE.out, rfl⟩, rfl⟩

set_option maxHeartbeats 1000000 in
theorem pneedIndices (v : Value) (l : List Int) (w : World) (hAt : Ints w v l) :
    Calls Tryd.prog 45 #[v] w fun e w' => Needs (l.all idx) 30 e ∧ w' = w := by
  have hlen := hAt.1
  obtain ⟨o, cap, hv⟩ := Row.len hAt
  have hs := Row.some hAt
  subst hv
  obtain ⟨R, hR⟩ : ∃ R, R = l.all idx := ⟨_, rfl⟩
  rw [← hR]
  have HR : Hid (R = (l.drop 0).all idx) := hR
  have HX := hideM hs
  clear hs hAt hR
  generalize hn : l.length = n at *
  go_enter Tryd.func45, Tryd.ntmps45
  go_wp2_with fail
  go_loopw [6] (fun i wr => ∃ j : Nat, j ≤ n ∧ i = .int .i64 j ∧ Hid (R = (l.drop j).all idx) ∧ wr = w) (fun i _ => n - (RowKit.intOf i).toNat)
  case atStart => exact ⟨0, by omega, rfl, HR, rfl⟩
  case round =>
    obtain ⟨j, hj, rfl, HK, rfl⟩ := hrel
    by_cases hgo : j < n
    · obtain ⟨b, off, cap2, hv2, hx⟩ := HX.out (by omega)
      injection hv2 with ho h2 h3
      subst ho
      obtain ⟨x, hxk⟩ : ∃ x, l[j]? = some x := ⟨_, List.getElem?_eq_getElem (by omega)⟩
      have hc := hx j x hxk
      rw [Nat.mul_one] at hc
      have HN := hideM (all_on hxk HK.out)
      clear hx hxk HK HX h2 h3
      by_cases h1 : 0 ≤ x
      · have d1 : decide (0 ≤ x) = true := by simp [h1]
        by_cases h2 : x ≤ 4294967295
        · have hp : idx x = true := by simp [idx, h1, h2]
          have d2 : decide (x ≤ 4294967295) = true := by simp [h2]
          have HN' : Hid (R = (l.drop (j + 1)).all idx) := by have := HN.out; rw [hp, Bool.true_and] at this; exact this
          clear HN hp
          go_wp2_with fail
          refine (pNeed true _ _).mono ?_
          rintro e u ⟨⟨_, rfl⟩ | ⟨hf, _⟩, rfl⟩
          · go_wp2
            go_roundw
            case rel => exact ⟨j + 1, by omega, by go_num, HN', trivial⟩
            case measure => simp [RowKit.intOf]; omega
          · cases hf
        · have hp : idx x = false := by simp [idx]; omega
          have d2 : decide (x ≤ 4294967295) = false := by simp; omega
          have HF : R = false := by have := HN.out; rw [hp, Bool.false_and] at this; exact this
          have HFF := hideM HF
          clear HN hp HF
          go_wp2_with fail
          refine (pNeed false _ _).mono ?_
          rintro e u ⟨⟨hf, _⟩ | ⟨_, rfl⟩, rfl⟩
          · cases hf
          · go_wp2
            exact ⟨rfl, .inr ⟨HFF.out, rfl⟩, rfl⟩
      · have hp : idx x = false := by simp [idx]; omega
        have d1 : decide (0 ≤ x) = false := by simp; omega
        have HF : R = false := by have := HN.out; rw [hp, Bool.false_and] at this; exact this
        have HFF := hideM HF
        clear HN hp HF
        go_wp2_with fail
        refine (pNeed false _ _).mono ?_
        rintro e u ⟨⟨hf, _⟩ | ⟨_, rfl⟩, rfl⟩
        · cases hf
        · go_wp2
          exact ⟨rfl, .inr ⟨HFF.out, rfl⟩, rfl⟩
    · have HE : R = true := all_end (by omega) HK.out
      have HEE := hideM HE
      clear HE HK
      go_wp2
      go_end0
      exact ⟨.inl ⟨HEE.out, rfl⟩, rfl⟩

end Go.Proofs.YtlpnoelolkbmmaaDoor

namespace Go.Proofs.YtlpnoelolkbmmaaDoor
open Go.RowKit Rep
set_option linter.unusedVariables false

namespace Rep
theorem ints_new (w : World) (t : TypeId) (b cap : Nat) (zs : List Int) (hb : b = w.heap.size) (hl : zs.length ≤ 9223372036854775807) : Ints (w.alloc (.cells (zs.map fun z => Value.int .i64 z).toArray t)) (.slice (some ⟨b, 0, none⟩) zs.length cap) zs := by
  refine ⟨hl, .inr ⟨b, 0, cap, rfl, fun i x hi => ?_⟩⟩
  show (w.alloc (.cells (zs.map fun z => Value.int .i64 z).toArray t)).cell? ⟨b, 0 + i * 1, none⟩ = _
  rw [World.cell?_alloc_at _ t _ _ hb]
  simp [hi]
theorem kp_set (w : World) (cb : Nat) (u : Value) (o : Obj) : Kp (fun k => k = cb) w ((w.setCell ⟨cb, 0, none⟩ u).alloc o) := by
  have h0 : Below 0 w (w.setCell ⟨cb, 0, none⟩ u) := (Below.refl 0 w).setCell (p := ⟨cb, 0, none⟩) (Nat.zero_le _) u
  have h : Kp (fun k => k = cb) w (w.setCell ⟨cb, 0, none⟩ u) := ⟨h0.os, h0.tape, h0.output, h0.size, fun k _ hs => Below.heap_setCell w _ u k hs⟩
  exact h.alloc o
theorem cell_set (w : World) (cb : Nat) (u : Value) (o : Obj) (hb : cb < w.heap.size) (h : (w.cell? ⟨cb, 0, none⟩).isSome = true) : ((w.setCell ⟨cb, 0, none⟩ u).alloc o).cell? ⟨cb, 0, none⟩ = some u := by
  rw [World.cell?_alloc_past o cb 0 (by simpa using hb)]
  exact World.cell?_setCell_same' w _ u h
theorem frozen_set (w : World) (cb : Nat) (u : Value) (o : Obj) (hb : cb < w.heap.size) (h : w.frozen? ⟨cb, 0, none⟩ = false) : ((w.setCell ⟨cb, 0, none⟩ u).alloc o).frozen? ⟨cb, 0, none⟩ = false := by
  have hk : cb < (w.setCell ⟨cb, 0, none⟩ u).heap.size := by simpa using hb
  rw [((Below.refl _ (w.setCell ⟨cb, 0, none⟩ u)).alloc (Nat.le_refl _) o).frozen (p := ⟨cb, 0, none⟩) hk, World.frozen?_setCell]
  exact h
theorem kp_two {S : Nat → Prop} (w : World) (o p : Obj) : Kp S w ((w.alloc o).alloc p) := ((Kp.refl S w).alloc o).alloc p
end Rep

def stepLabels (_ : Unit) (x : Sn) (_ : Nat) : Option Unit := if few x.labels.length = true then some () else none
def stepDepth (_ : Unit) (_ : Sn) (k : Nat) : Option Unit := if k ≤ 64 then some () else none
def stepCount (c : Nat) (_ : Sn) (_ : Nat) : Option Nat := if c + 1 ≤ 65536 then some (c + 1) else none

set_option maxHeartbeats 1000000 in
theorem seeDepth (w0 : World) : SeeC 29 (fun x y => #[x, y]) w0 (fun _ => False) (fun (_ : Unit) _ => True) stepDepth 4 := by
  intro s x lv bv ev dep w hb _ hl hbv hev hd
  obtain ⟨lo, lc, rfl⟩ := Row.len hl
  obtain ⟨bo, bc, rfl⟩ := hbv
  obtain ⟨eo, ec, rfl⟩ := hev
  generalize hS : stepDepth s x dep = R
  unfold stepDepth at hS
  clear hl hb
  by_cases hk : dep ≤ 64
  · rw [if_pos hk] at hS
    have hd' : decide ((dep : Int) ≤ 64) = true := by simp; omega
    have HS := hideM hS
    clear hS
    go_enter Tryd.func29, Tryd.ntmps29
    go_wp2_with fail
    refine (pNeed true _ _).mono ?_
    rintro e u ⟨⟨_, rfl⟩ | ⟨hf, _⟩, rfl⟩
    · go_wp2
      go_end0
      exact ⟨(Kp.refl _ w).alloc _, .inl ⟨(), HS.out.symm, rfl, trivial⟩⟩
    · cases hf
  · rw [if_neg hk] at hS
    have hd' : decide ((dep : Int) ≤ 64) = false := by simp; omega
    have HS := hideM hS
    clear hS
    go_enter Tryd.func29, Tryd.ntmps29
    go_wp2_with fail
    refine (pNeed false _ _).mono ?_
    rintro e u ⟨⟨hf, _⟩ | ⟨_, rfl⟩, rfl⟩
    · cases hf
    · go_wp2
      exact ⟨rfl, (Kp.refl _ w).alloc _, .inr ⟨HS.out.symm, rfl⟩⟩

set_option maxHeartbeats 1000000 in
theorem seeLabels (w0 : World) : SeeC 27 (fun x y => #[x, y]) w0 (fun _ => False) (fun (_ : Unit) _ => True) stepLabels 3 := by
  intro s x lv bv ev dep w hb _ hl hbv hev hd
  have hlen := hl.1
  obtain ⟨lo, lc, rfl⟩ := Row.len hl
  obtain ⟨bo, bc, rfl⟩ := hbv
  obtain ⟨eo, ec, rfl⟩ := hev
  generalize hS : stepLabels s x dep = R
  unfold stepLabels at hS
  have HS := hideM hS
  clear hl hb hS
  generalize x.labels.length = n at *
  go_enter Tryd.func27, Tryd.ntmps27
  go_wp2_with fail
  refine (pneedShort _ [(n : Int)] _ (ints_new _ _ _ _ _ (by simp) (by show 1 ≤ _; omega))).mono ?_
  rintro e u ⟨⟨hf, rfl⟩ | ⟨hf, rfl⟩, rfl⟩
  · have HF : Hid (R = some ()) := by
      have := HS.out; rw [if_pos (by simpa using hf)] at this; exact this.symm
    clear hf
    go_wp2
    go_end0
    exact ⟨kp_two _ _ _, .inl ⟨(), HF.out, rfl, trivial⟩⟩
  · have HF : Hid (R = none) := by
      have := HS.out; rw [if_neg (by simpa using hf)] at this; exact this.symm
    clear hf
    go_wp2
    exact ⟨rfl, kp_two _ _ _, .inr ⟨HF.out, rfl⟩⟩

set_option maxHeartbeats 1000000 in
theorem seeCount (w0 : World) (cb : Nat) : SeeC 41 (fun x y => #[x, y, .pointer (some ⟨cb, 0, none⟩)]) w0 (fun k => k = cb) (fun (c : Nat) w => c ≤ 65536 ∧ w.cell? ⟨cb, 0, none⟩ = some (.int .i64 c) ∧ w.frozen? ⟨cb, 0, none⟩ = false) stepCount 3 := by
  intro s x lv bv ev dep w hb hi hl hbv hev hd
  obtain ⟨hc, hcell, hfz⟩ := hi
  obtain ⟨lo, lc, rfl⟩ := Row.len hl
  obtain ⟨bo, bc, rfl⟩ := hbv
  obtain ⟨eo, ec, rfl⟩ := hev
  generalize hS : stepCount s x dep = R
  unfold stepCount at hS
  have HS := hideM hS
  clear hl hb hS
  generalize x.labels.length = n at *
  have hcb : cb < w.heap.size := World.block_lt_of_cell? _ _ hcell
  by_cases hk : s + 1 ≤ 65536
  · have HF : Hid (R = some (s + 1)) := by
      have := HS.out; rw [if_pos hk] at this; exact this.symm
    have hd' : decide ((s : Int) + 1 ≤ 65536) = true := by simp; omega
    clear HS
    go_enter Tryd.func41, Tryd.ntmps41
    go_wp2_with fail
    refine (pNeed true _ _).mono ?_
    rintro e u ⟨⟨_, rfl⟩ | ⟨hf, _⟩, rfl⟩
    · go_wp2
      go_end0
      exact ⟨kp_set _ _ _ _, .inl ⟨s + 1, HF.out, rfl, hk, cell_set _ _ _ _ hcb (by rw [hcell]; rfl), frozen_set _ _ _ _ hcb hfz⟩⟩
    · cases hf
  · have HF : Hid (R = none) := by
      have := HS.out; rw [if_neg hk] at this; exact this.symm
    have hd' : decide ((s : Int) + 1 ≤ 65536) = false := by simp; omega
    clear HS
    go_enter Tryd.func41, Tryd.ntmps41
    go_wp2_with fail
    refine (pNeed false _ _).mono ?_
    rintro e u ⟨⟨hf, _⟩ | ⟨_, rfl⟩, rfl⟩
    · cases hf
    · go_wp2
      exact ⟨rfl, kp_set _ _ _ _, .inr ⟨HF.out, rfl⟩⟩
end Go.Proofs.YtlpnoelolkbmmaaDoor

namespace Go.Proofs.YtlpnoelolkbmmaaDoor
open Go.RowKit Rep
set_option linter.unusedVariables false
namespace Rep
def bare (a b n : Int) (nl nb ne : Nat) : Bool := decide (a = 0 ∧ b = 0 ∧ n = 0 ∧ nl = 0 ∧ nb = 0 ∧ ne = 0)
def res (a : Int) : Bool := decide (a = 0) || typ a
end Rep

set_option maxHeartbeats 1000000 in
theorem pneedResult (a : Int) (w : World) : Calls Tryd.prog 49 #[.int .i64 a] w fun e w' => Needs (res a) 30 e ∧ Below w.heap.size w w' := by
  by_cases h : a = 0
  · have hr : res a = true := by simp [res, h]
    rw [hr]
    have d1 : (a != 0) = false := by simp [h]
    clear h hr
    go_enter Tryd.func49, Tryd.ntmps49
    go_wp2
    go_end0
    exact ⟨.inl ⟨rfl, rfl⟩, Below.refl _ _⟩
  · have hr : res a = typ a := by simp [res, h]
    rw [hr]
    have d1 : (a != 0) = true := by simp [h]
    clear h hr
    generalize ht : typ a = t
    have HT := hideM ht
    clear ht
    go_enter Tryd.func49, Tryd.ntmps49
    go_wp2_with fail
    refine (pneedTypes _ [a] _ (ints_new _ _ _ _ _ (by simp) (by show 1 ≤ _; omega))).mono ?_
    rintro e u ⟨hN, rfl⟩
    have hl : [a].all typ = t := by rw [← HT.out]; simp
    rw [hl] at hN
    clear hl
    rcases hN with ⟨rfl, rfl⟩ | ⟨rfl, rfl⟩
    · go_wp2
      go_end0
      exact ⟨.inl ⟨rfl, rfl⟩, (Below.refl _ w).alloc (Nat.le_refl _) _⟩
    · go_wp2
      exact ⟨rfl, .inr ⟨rfl, rfl⟩, (Below.refl _ w).alloc (Nat.le_refl _) _⟩

set_option maxHeartbeats 2000000 in
theorem pneedBare (op a b n : Int) (lo bo eo : Option Addr) (nl nb ne lc bc ec : Nat) (w : World) :
    Calls Tryd.prog 50 #[.agg #[.int .i64 op, .int .i64 a, .int .i64 b, .int .i64 n, .slice lo nl lc, .slice bo nb bc, .slice eo ne ec]] w fun e w' => Needs (bare a b n nl nb ne) 30 e ∧ Below w.heap.size w w' := by
  by_cases g0 : a = 0
  · have d0 : (a == 0) = true := by simp [g0]
    by_cases g1 : b = 0
    · have d1 : (b == 0) = true := by simp [g1]
      by_cases g2 : n = 0
      · have d2 : (n == 0) = true := by simp [g2]
        by_cases g3 : nl = 0
        · have d3 : ((nl : Int) == 0) = true := by simp [g3]
          by_cases g4 : nb = 0
          · have d4 : ((nb : Int) == 0) = true := by simp [g4]
            by_cases g5 : ne = 0
            · have d5 : ((ne : Int) == 0) = true := by simp [g5]
              have hr : bare a b n nl nb ne = true := by simp [bare, g0, g1, g2, g3, g4, g5]
              rw [hr]
              clear hr g0 g1 g2 g3 g4 g5
              go_enter Tryd.func50, Tryd.ntmps50
              go_wp2_with fail
              refine (pNeed true _ _).mono ?_
              rintro e u ⟨hN, rfl⟩
              obtain rfl := hN.yes
              go_wp2_with fail
              refine (pNeed true _ _).mono ?_
              rintro e u ⟨⟨_, rfl⟩ | ⟨hf, _⟩, rfl⟩
              · go_wp2
                go_end0
                exact ⟨.inl ⟨rfl, rfl⟩, (Below.refl _ w).alloc (Nat.le_refl _) _⟩
              · cases hf
            · have d5 : ((ne : Int) == 0) = false := by simp [g5]
              have hr : bare a b n nl nb ne = false := by simp [bare, g5]
              rw [hr]
              clear hr g0 g1 g2 g3 g4 g5
              go_enter Tryd.func50, Tryd.ntmps50
              go_wp2_with fail
              refine (pNeed true _ _).mono ?_
              rintro e u ⟨hN, rfl⟩
              obtain rfl := hN.yes
              go_wp2_with fail
              refine (pNeed false _ _).mono ?_
              rintro e u ⟨⟨hf, _⟩ | ⟨_, rfl⟩, rfl⟩
              · cases hf
              · go_wp2
                exact ⟨rfl, .inr ⟨rfl, rfl⟩, (Below.refl _ w).alloc (Nat.le_refl _) _⟩
          · have d4 : ((nb : Int) == 0) = false := by simp [g4]
            have hr : bare a b n nl nb ne = false := by simp [bare, g4]
            rw [hr]
            clear hr g0 g1 g2 g3 g4
            go_enter Tryd.func50, Tryd.ntmps50
            go_wp2_with fail
            refine (pNeed true _ _).mono ?_
            rintro e u ⟨hN, rfl⟩
            obtain rfl := hN.yes
            go_wp2_with fail
            refine (pNeed false _ _).mono ?_
            rintro e u ⟨⟨hf, _⟩ | ⟨_, rfl⟩, rfl⟩
            · cases hf
            · go_wp2
              exact ⟨rfl, .inr ⟨rfl, rfl⟩, (Below.refl _ w).alloc (Nat.le_refl _) _⟩
        · have d3 : ((nl : Int) == 0) = false := by simp [g3]
          have hr : bare a b n nl nb ne = false := by simp [bare, g3]
          rw [hr]
          clear hr g0 g1 g2 g3
          go_enter Tryd.func50, Tryd.ntmps50
          go_wp2_with fail
          refine (pNeed true _ _).mono ?_
          rintro e u ⟨hN, rfl⟩
          obtain rfl := hN.yes
          go_wp2_with fail
          refine (pNeed false _ _).mono ?_
          rintro e u ⟨⟨hf, _⟩ | ⟨_, rfl⟩, rfl⟩
          · cases hf
          · go_wp2
            exact ⟨rfl, .inr ⟨rfl, rfl⟩, (Below.refl _ w).alloc (Nat.le_refl _) _⟩
      · have d2 : (n == 0) = false := by simp [g2]
        have hr : bare a b n nl nb ne = false := by simp [bare, g2]
        rw [hr]
        clear hr g0 g1 g2
        go_enter Tryd.func50, Tryd.ntmps50
        go_wp2_with fail
        refine (pNeed false _ _).mono ?_
        rintro e u ⟨⟨hf, _⟩ | ⟨_, rfl⟩, rfl⟩
        · cases hf
        · go_wp2
          exact ⟨rfl, .inr ⟨rfl, rfl⟩, (Below.refl _ w).alloc (Nat.le_refl _) _⟩
    · have d1 : (b == 0) = false := by simp [g1]
      have hr : bare a b n nl nb ne = false := by simp [bare, g1]
      rw [hr]
      clear hr g0 g1
      go_enter Tryd.func50, Tryd.ntmps50
      go_wp2_with fail
      refine (pNeed false _ _).mono ?_
      rintro e u ⟨⟨hf, _⟩ | ⟨_, rfl⟩, rfl⟩
      · cases hf
      · go_wp2
        exact ⟨rfl, .inr ⟨rfl, rfl⟩, (Below.refl _ w).alloc (Nat.le_refl _) _⟩
  · have d0 : (a == 0) = false := by simp [g0]
    have hr : bare a b n nl nb ne = false := by simp [bare, g0]
    rw [hr]
    clear hr g0
    go_enter Tryd.func50, Tryd.ntmps50
    go_wp2_with fail
    refine (pNeed false _ _).mono ?_
    rintro e u ⟨⟨hf, _⟩ | ⟨_, rfl⟩, rfl⟩
    · cases hf
    · go_wp2
      exact ⟨rfl, .inr ⟨rfl, rfl⟩, (Below.refl _ w).alloc (Nat.le_refl _) _⟩

end Go.Proofs.YtlpnoelolkbmmaaDoor
