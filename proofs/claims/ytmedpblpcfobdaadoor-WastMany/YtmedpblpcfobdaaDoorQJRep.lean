/- QJRep: several texts in one. -/
import Derived.Test.YtmedpblpcfobdaaDoorRows
import Derived.WalkKit
import Derived.WalkSpells
import Derived.WalkSmall
import Derived.BigQuiet
import Derived.Deep.QuietTactic
/- Modules as they lie in memory: rows of cells that read as lists, instructions in one another; whatever only makes new memory leaves them as they are. -/
namespace Go.Proofs.YtmedpblpcfobdaaDoor
open Go.RowKit
namespace Rep

/-- a list of whatever, each thing from a place of its own on, so many cells apart -/
def Row {α : Type} (size : Nat) (f : Nat → Nat → α → Prop) (v : Value) (l : List α) : Prop :=
  l.length ≤ 9223372036854775807 ∧ ((l = [] ∧ ∃ o cap, v = .slice o 0 cap) ∨ ∃ b off cap, v = .slice (some ⟨b, off, none⟩) l.length cap ∧ ∀ (i : Nat) (x : α), l[i]? = some x → f b (off + i * size) x)
theorem Row.len {α : Type} {size : Nat} {f : Nat → Nat → α → Prop} {v : Value} {l : List α} (h : Row size f v l) : ∃ o cap, v = .slice o l.length cap := by
  rcases h with ⟨_, ⟨rfl, o, cap, rfl⟩ | ⟨b, off, cap, rfl, _⟩⟩
  · exact ⟨o, cap, rfl⟩
  · exact ⟨_, cap, rfl⟩
theorem Row.some {α : Type} {size : Nat} {f : Nat → Nat → α → Prop} {v : Value} {l : List α} (h : Row size f v l) (h0 : 0 < l.length) : ∃ b off cap, v = .slice (some ⟨b, off, none⟩) l.length cap ∧ ∀ (i : Nat) (x : α), l[i]? = some x → f b (off + i * size) x := by
  rcases h with ⟨_, ⟨rfl, _⟩ | h⟩
  · exact absurd h0 (by simp)
  · exact h
theorem Row.imp {α : Type} {size : Nat} {f g : Nat → Nat → α → Prop} {v : Value} {l : List α} (h : Row size f v l) (hfg : ∀ b o x, x ∈ l → f b o x → g b o x) : Row size g v l := by
  rcases h with ⟨hl, h | ⟨b, off, cap, hv, hc⟩⟩
  · exact ⟨hl, .inl h⟩
  · exact ⟨hl, .inr ⟨b, off, cap, hv, fun i x hi => hfg _ _ _ (List.mem_of_getElem? hi) (hc i x hi)⟩⟩

/-- numbers -/
def Ints (w : World) (v : Value) (l : List Int) : Prop := Row 1 (fun b o (z : Int) => w.cell? ⟨b, o, none⟩ = .some (.int .i64 z)) v l
theorem cell_on {w w' : World} (hb : Below w.heap.size w w') {b o : Nat} {u : Value} (h : w.cell? ⟨b, o, none⟩ = .some u) : w'.cell? ⟨b, o, none⟩ = .some u := by
  rw [hb.cell (World.block_lt_of_cell? _ _ h)]; exact h
theorem Ints.on {w w' : World} (hb : Below w.heap.size w w') {v : Value} {l : List Int} (h : Ints w v l) : Ints w' v l := Row.imp h fun _ _ _ _ h => cell_on hb h

/-- an instruction, and what stands in it -/
structure Ins (α : Type) where
  op : Int
  a : Int
  b : Int
  n : Int
  labels : List Int
  body : α
  els : α
/-- instructions, at most so many in one another -/
def IL : Nat → Type
  | 0 => Unit
  | d + 1 => List (Ins (IL d))
structure InsAt {α : Type} (w : World) (sub : Value → α → Prop) (bk o : Nat) (x : Ins α) : Prop where
  op : w.cell? ⟨bk, o, none⟩ = .some (.int .i64 x.op)
  a : w.cell? ⟨bk, o + 1, none⟩ = .some (.int .i64 x.a)
  b : w.cell? ⟨bk, o + 2, none⟩ = .some (.int .i64 x.b)
  n : w.cell? ⟨bk, o + 3, none⟩ = .some (.int .i64 x.n)
  labels : ∃ v, w.cell? ⟨bk, o + 4, none⟩ = .some v ∧ Ints w v x.labels
  body : ∃ v, w.cell? ⟨bk, o + 5, none⟩ = .some v ∧ sub v x.body
  els : ∃ v, w.cell? ⟨bk, o + 6, none⟩ = .some v ∧ sub v x.els
def At (w : World) : (d : Nat) → Value → IL d → Prop
  | 0, v, _ => ∃ o cap, v = .slice o 0 cap
  | d + 1, v, l => Row 7 (InsAt w (At w d)) v l
theorem InsAt.on {α : Type} {w w' : World} (hb : Below w.heap.size w w') {f g : Value → α → Prop} (hfg : ∀ v x, f v x → g v x) {b o : Nat} {x : Ins α} (h : InsAt w f b o x) : InsAt w' g b o x :=
  ⟨cell_on hb h.op, cell_on hb h.a, cell_on hb h.b, cell_on hb h.n,
   let ⟨v, h1, h2⟩ := h.labels; ⟨v, cell_on hb h1, h2.on hb⟩,
   let ⟨v, h1, h2⟩ := h.body; ⟨v, cell_on hb h1, hfg _ _ h2⟩,
   let ⟨v, h1, h2⟩ := h.els; ⟨v, cell_on hb h1, hfg _ _ h2⟩⟩
theorem At.on {w w' : World} (hb : Below w.heap.size w w') : ∀ (d : Nat) (v : Value) (l : IL d), At w d v l → At w' d v l
  | 0, _, _, h => h
  | d + 1, _, _, h => Row.imp (α := Ins (IL d)) h fun _ _ _ _ h => h.on hb (At.on hb d)
/-- as many draws do nothing to what lies in memory -/
theorem below_drewN' (w : World) (n : Nat) : Below w.heap.size w (w.drewN n) := ⟨rfl, rfl, rfl, Nat.le_refl _, fun _ _ => rfl⟩

/-- how many instructions there are, behind so many; more than 65536: no more is counted -/
def cntL {α : Type} (f : α → Nat → Nat) : List (Ins α) → Nat → Nat
  | [], c => c
  | x :: r, c => if c ≤ 65536 then cntL f r (f x.els (f x.body (c + 1))) else c
def cnt : (d : Nat) → IL d → Nat → Nat
  | 0, _, c => c
  | d + 1, l, c => cntL (cnt d) l c
theorem cntL_le {α : Type} {f : α → Nat → Nat} (hf : ∀ x c, f x c ≤ max c 65537) : ∀ (l : List (Ins α)) (c : Nat), cntL f l c ≤ max c 65537
  | [], c => by unfold cntL; omega
  | x :: r, c => by
    unfold cntL
    split
    · have h1 := hf x.body (c + 1)
      have h2 := hf x.els (f x.body (c + 1))
      have h3 := cntL_le hf r (f x.els (f x.body (c + 1)))
      omega
    · omega
theorem cnt_le : ∀ (d : Nat) (l : IL d) (c : Nat), cnt d l c ≤ max c 65537
  | 0, _, c => by show c ≤ _; omega
  | d + 1, l, c => cntL_le (cnt_le d) l c
end Rep
end Go.Proofs.YtmedpblpcfobdaaDoor

/- What the document's own small looks at numbers and lists of numbers tell: the plain functions; nothing is touched. -/
namespace Go.Proofs.YtmedpblpcfobdaaDoor
open Go.RowKit Rep
set_option linter.unusedVariables false

namespace Rep
theorem hideM {p : Prop} (h : p) : Hid p := h
def idx (n : Int) : Bool := decide (0 ≤ n ∧ n ≤ 4294967295)
def typ (n : Int) : Bool := decide (n = 126 ∨ n = 127)
theorem all_end {α : Type} {p : α → Bool} {l : List α} {k : Nat} {r : Bool} (hk : ¬ k < l.length) (h : r = (l.drop k).all p) : r = true := by
  rw [h, List.drop_of_length_le (by omega)]; rfl
theorem all_on {α : Type} {p : α → Bool} {l : List α} {k : Nat} {r : Bool} {x : α} (hx : l[k]? = some x) (h : r = (l.drop k).all p) : r = (p x && (l.drop (k + 1)).all p) := by
  have hl : k < l.length := (List.getElem?_eq_some_iff.1 hx).1
  have he : l[k] = x := (List.getElem?_eq_some_iff.1 hx).2
  rw [h, List.drop_eq_getElem_cons hl, he, List.all_cons]
theorem retB {a b : Bool} (h : a = b) : Ending.returned (.bool a) = .returned (.bool b) := by rw [h]
end Rep

set_option maxHeartbeats 400000 in
theorem refIndex (n : Int) (w : World) : Calls Tryd.prog 75 #[.int .i64 n] w fun e w' => e = .returned (.bool (idx n)) ∧ w' = w := by
  go_enter Tryd.func75, Tryd.ntmps75
  go_wp2
  all_goals go_ret
  all_goals refine ⟨retB ?_, rfl⟩
  all_goals (unfold idx; rw [Bool.eq_iff_iff]; simp only [decide_eq_true_eq]; first | omega | (simp; omega))

set_option maxHeartbeats 400000 in
theorem refIn (n a b : Int) (w : World) : Calls Tryd.prog 24 #[.int .i64 n, .int .i64 a, .int .i64 b] w fun e w' => e = .returned (.bool (decide (a ≤ n ∧ n ≤ b))) ∧ w' = w := by
  go_enter Tryd.func24, Tryd.ntmps24
  go_wp2
  all_goals go_ret
  all_goals refine ⟨retB ?_, rfl⟩
  all_goals first | rfl | (rw [Bool.eq_iff_iff]; simp; done) | (rw [Bool.eq_iff_iff]; simp; omega) | (symm; simp; omega)

set_option maxHeartbeats 1000000 in
theorem refIndices (v : Value) (l : List Int) (w : World) (hAt : Ints w v l) :
    Calls Tryd.prog 78 #[v] w fun e w' => e = .returned (.bool (l.all idx)) ∧ w' = w := by
  have hlen := hAt.1
  obtain ⟨o, cap, hv⟩ := Row.len hAt
  have hs := Row.some hAt
  subst hv
  obtain ⟨R, hR⟩ : ∃ R, R = l.all idx := ⟨_, rfl⟩
  rw [← hR]
  have HR : Hid (R = (l.drop 0).all idx) := hR
  have HX := hideM hs
  clear hs hAt hR
  generalize hn : l.length = n at *
  go_enter Tryd.func78, Tryd.ntmps78
  go_wp2_with fail
  go_loopw [3] (fun i wr => ∃ k : Nat, k ≤ n ∧ i = .int .i64 k ∧ R = (l.drop k).all idx ∧ wr = w) (fun i _ => n - (intOf i).toNat)
  case atStart => exact ⟨0, by omega, rfl, HR.out, rfl⟩
  case round =>
    obtain ⟨k, hk, rfl, hrr, rfl⟩ := hrel
    have HK := hideM hrr
    clear hrr
    by_cases hgo : k < n
    · obtain ⟨b, off, cap2, hv2, hx⟩ := HX.out (by omega)
      injection hv2 with ho h2 h3
      subst ho
      obtain ⟨x, hxk⟩ : ∃ x, l[k]? = some x := ⟨_, List.getElem?_eq_getElem (by omega)⟩
      have hc := hx k x hxk
      rw [Nat.mul_one] at hc
      have HN := all_on hxk HK.out
      have i1 := hideM (refIndex x wr)
      clear hx hxk HK HX h2 h3
      generalize idx x = r1 at *
      have HN' := hideM HN
      clear HN
      go_wp2_with fail
      refine i1.out.mono ?_
      rintro e w1 ⟨rfl, rfl⟩
      cases r1
      · have hfin : R = false := by rw [HN'.out]; rfl
        go_wp2
        go_ret
        exact ⟨by first | rfl | (rw [hfin]; rfl), rfl⟩
      · go_wp2
        go_roundw
        case rel => exact ⟨k + 1, by omega, by go_num, by rw [HN'.out]; rfl, trivial⟩
        case measure => simp [intOf]; omega
    · have HE := all_end (by omega) HK.out
      clear HK
      go_wp2
      go_ret
      exact ⟨by first | rfl | (rw [HE]; rfl), rfl⟩

set_option maxHeartbeats 1000000 in
theorem refTypes (v : Value) (l : List Int) (w : World) (hAt : Ints w v l) :
    Calls Tryd.prog 74 #[v] w fun e w' => e = .returned (.bool (l.all typ)) ∧ w' = w := by
  have hlen := hAt.1
  obtain ⟨o, cap, hv⟩ := Row.len hAt
  have hs := Row.some hAt
  subst hv
  obtain ⟨R, hR⟩ : ∃ R, R = l.all typ := ⟨_, rfl⟩
  rw [← hR]
  have HR : Hid (R = (l.drop 0).all typ) := hR
  have HX := hideM hs
  clear hs hAt hR
  generalize hn : l.length = n at *
  go_enter Tryd.func74, Tryd.ntmps74
  go_wp2_with fail
  go_loopw [3] (fun i wr => ∃ k : Nat, k ≤ n ∧ i = .int .i64 k ∧ R = (l.drop k).all typ ∧ wr = w) (fun i _ => n - (intOf i).toNat)
  case atStart => exact ⟨0, by omega, rfl, HR.out, rfl⟩
  case round =>
    obtain ⟨k, hk, rfl, hrr, rfl⟩ := hrel
    have HK := hideM hrr
    clear hrr
    by_cases hgo : k < n
    · obtain ⟨b, off, cap2, hv2, hx⟩ := HX.out (by omega)
      injection hv2 with ho h2 h3
      subst ho
      obtain ⟨x, hxk⟩ : ∃ x, l[k]? = some x := ⟨_, List.getElem?_eq_getElem (by omega)⟩
      have hc := hx k x hxk
      rw [Nat.mul_one] at hc
      have HN := all_on hxk HK.out
      clear hx hxk HK HX h2 h3
      by_cases h1 : x = 126
      · have ht : typ x = true := by simp [typ, h1]
        rw [ht, Bool.true_and] at HN
        have HN' := hideM HN
        have hb : (x != 126) = false := by simp [h1]
        clear HN h1 ht
        go_wp2
        go_roundw
        case rel => exact ⟨k + 1, by omega, by go_num, HN'.out, trivial⟩
        case measure => simp [intOf]; omega
      · by_cases h2 : x = 127
        · have ht : typ x = true := by simp [typ, h2]
          rw [ht, Bool.true_and] at HN
          have HN' := hideM HN
          have hb : (x != 126) = true := by simp [h1]
          have hb2 : (x != 127) = false := by simp [h2]
          clear HN h1 ht h2
          go_wp2
          go_roundw
          case rel => exact ⟨k + 1, by omega, by go_num, HN'.out, trivial⟩
          case measure => simp [intOf]; omega
        · have ht : typ x = false := by simp [typ, h1, h2]
          rw [ht, Bool.false_and] at HN
          have hb : (x != 126) = true := by simp [h1]
          have hb2 : (x != 127) = true := by simp [h2]
          clear h1 ht h2
          go_wp2
          go_ret
          exact ⟨by first | rfl | (rw [HN]; rfl), rfl⟩
    · have HE := all_end (by omega) HK.out
      clear HK
      go_wp2
      go_ret
      exact ⟨by first | rfl | (rw [HE]; rfl), rfl⟩
end Go.Proofs.YtmedpblpcfobdaaDoor
