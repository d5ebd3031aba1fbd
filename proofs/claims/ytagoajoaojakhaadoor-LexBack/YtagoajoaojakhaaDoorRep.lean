/- Modules as they lie in memory: rows of cells that read as lists, instructions in one another; whatever only makes new memory leaves them as they are. -/
import Derived.Test.YtagoajoaojakhaaDoorRows
import Derived.WalkKit
import Derived.WalkSpells
import Derived.WalkSmall
import Derived.BigQuiet
import Derived.Deep.QuietTactic
namespace Go.Proofs.YtagoajoaojakhaaDoor
open Go.RowKit
namespace Rep

/-- a list of whatever, each thing from a place of its own on, so many cells apart -/
def Row {α : Type} (size : Nat) (f : Nat → Nat → α → Prop) (v : Value) (l : List α) : Prop :=
  l.length ≤ 9223372036854775807 ∧ ((l = [] ∧ ∃ o cap, v = .slice o 0 cap) ∨ ∃ b off cap, v = .slice (some ⟨b, off, none⟩) l.length cap ∧ ∀ (i : Nat) (x : α), l[i]? = some x → f b (off + i * size) x)
theorem Row.len {α : Type} {size : Nat} {f : Nat → Nat → α → Prop} {v : Value} {l : List α} (h : Row size f v l) : ∃ o cap, v = .slice o l.length cap := by
  rcases h with ⟨_, ⟨rfl, o, cap, rfl⟩ | ⟨b, off, cap, rfl, _⟩⟩
  · exact ⟨o, cap, rfl⟩
  · exact ⟨_, cap, rfl⟩
theorem Row.some {α : Type} {size : Nat} {f : Nat → Nat → α → Prop} {v : Value} {l : List α} (h : Row size f v l) (h0 : 0 < l.length) : ∃ b off cap, v = .slice (some ⟨b, off, none⟩) l.length cap ∧ ∀ (i : Nat) (x : α), l[i]? = some x → f b (off + i * size) x := by
  rcases h with ⟨_, ⟨rfl, _⟩ | h⟩
  · exact absurd h0 (by simp)
  · exact h
theorem Row.imp {α : Type} {size : Nat} {f g : Nat → Nat → α → Prop} {v : Value} {l : List α} (h : Row size f v l) (hfg : ∀ b o x, x ∈ l → f b o x → g b o x) : Row size g v l := by
  rcases h with ⟨hl, h | ⟨b, off, cap, hv, hc⟩⟩
  · exact ⟨hl, .inl h⟩
  · exact ⟨hl, .inr ⟨b, off, cap, hv, fun i x hi => hfg _ _ _ (List.mem_of_getElem? hi) (hc i x hi)⟩⟩

/-- numbers -/
def Ints (w : World) (v : Value) (l : List Int) : Prop := Row 1 (fun b o (z : Int) => w.cell? ⟨b, o, none⟩ = .some (.int .i64 z)) v l
theorem cell_on {w w' : World} (hb : Below w.heap.size w w') {b o : Nat} {u : Value} (h : w.cell? ⟨b, o, none⟩ = .some u) : w'.cell? ⟨b, o, none⟩ = .some u := by
  rw [hb.cell (World.block_lt_of_cell? _ _ h)]; exact h
theorem Ints.on {w w' : World} (hb : Below w.heap.size w w') {v : Value} {l : List Int} (h : Ints w v l) : Ints w' v l := Row.imp h fun _ _ _ _ h => cell_on hb h

/-- an instruction, and what stands in it -/
structure Ins (α : Type) where
  op : Int
  a : Int
  b : Int
  n : Int
  labels : List Int
  body : α
  els : α
/-- instructions, at most so many in one another -/
def IL : Nat → Type
  | 0 => Unit
  | d + 1 => List (Ins (IL d))
structure InsAt {α : Type} (w : World) (sub : Value → α → Prop) (bk o : Nat) (x : Ins α) : Prop where
  op : w.cell? ⟨bk, o, none⟩ = .some (.int .i64 x.op)
  a : w.cell? ⟨bk, o + 1, none⟩ = .some (.int .i64 x.a)
  b : w.cell? ⟨bk, o + 2, none⟩ = .some (.int .i64 x.b)
  n : w.cell? ⟨bk, o + 3, none⟩ = .some (.int .i64 x.n)
  labels : ∃ v, w.cell? ⟨bk, o + 4, none⟩ = .some v ∧ Ints w v x.labels
  body : ∃ v, w.cell? ⟨bk, o + 5, none⟩ = .some v ∧ sub v x.body
  els : ∃ v, w.cell? ⟨bk, o + 6, none⟩ = .some v ∧ sub v x.els
def At (w : World) : (d : Nat) → Value → IL d → Prop
  | 0, v, _ => ∃ o cap, v = .slice o 0 cap
  | d + 1, v, l => Row 7 (InsAt w (At w d)) v l
theorem InsAt.on {α : Type} {w w' : World} (hb : Below w.heap.size w w') {f g : Value → α → Prop} (hfg : ∀ v x, f v x → g v x) {b o : Nat} {x : Ins α} (h : InsAt w f b o x) : InsAt w' g b o x :=
  ⟨cell_on hb h.op, cell_on hb h.a, cell_on hb h.b, cell_on hb h.n,
   let ⟨v, h1, h2⟩ := h.labels; ⟨v, cell_on hb h1, h2.on hb⟩,
   let ⟨v, h1, h2⟩ := h.body; ⟨v, cell_on hb h1, hfg _ _ h2⟩,
   let ⟨v, h1, h2⟩ := h.els; ⟨v, cell_on hb h1, hfg _ _ h2⟩⟩
theorem At.on {w w' : World} (hb : Below w.heap.size w w') : ∀ (d : Nat) (v : Value) (l : IL d), At w d v l → At w' d v l
  | 0, _, _, h => h
  | d + 1, _, _, h => Row.imp (α := Ins (IL d)) h fun _ _ _ _ h => h.on hb (At.on hb d)
/-- as many draws do nothing to what lies in memory -/
theorem below_drewN' (w : World) (n : Nat) : Below w.heap.size w (w.drewN n) := ⟨rfl, rfl, rfl, Nat.le_refl _, fun _ _ => rfl⟩

/-- how many instructions there are, behind so many; more than 65536: no more is counted -/
def cntL {α : Type} (f : α → Nat → Nat) : List (Ins α) → Nat → Nat
  | [], c => c
  | x :: r, c => if c ≤ 65536 then cntL f r (f x.els (f x.body (c + 1))) else c
def cnt : (d : Nat) → IL d → Nat → Nat
  | 0, _, c => c
  | d + 1, l, c => cntL (cnt d) l c
theorem cntL_le {α : Type} {f : α → Nat → Nat} (hf : ∀ x c, f x c ≤ max c 65537) : ∀ (l : List (Ins α)) (c : Nat), cntL f l c ≤ max c 65537
  | [], c => by unfold cntL; omega
  | x :: r, c => by
    unfold cntL
    split
    · have h1 := hf x.body (c + 1)
      have h2 := hf x.els (f x.body (c + 1))
      have h3 := cntL_le hf r (f x.els (f x.body (c + 1)))
      omega
    · omega
theorem cnt_le : ∀ (d : Nat) (l : IL d) (c : Nat), cnt d l c ≤ max c 65537
  | 0, _, c => by show c ≤ _; omega
  | d + 1, l, c => cntL_le (cnt_le d) l c
end Rep
end Go.Proofs.YtagoajoaojakhaaDoor
