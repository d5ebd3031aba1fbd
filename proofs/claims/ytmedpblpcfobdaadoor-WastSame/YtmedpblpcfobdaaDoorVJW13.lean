/- VJW13: several texts in one. -/
import Derived.Test.YtmedpblpcfobdaaDoorVW12
import Derived.Ground.NamesProg
import Derived.WalkMore
import Derived.Shelf.Lay
import Derived.Shelf.Unicode.ValidAny
import Derived.Shelf.Spec.SlicesGrow
import Derived.Laws.AppendOwn
import Derived.Laws.AppendOwnNone
/- The program's Name, by the library's contract. -/
namespace Go.Proofs
open Go.RowKit Go.Shelf Go.Lib

shelf_lay Lays.n196 Nm 196 at Tryd as Tryd.laysValid

namespace YtmedpblpcfobdaaDoor
open Go.RowKit Rep
/-- the library's tables lie as they are laid -/
def UtfI (w : World) : Prop := Lib.Utf8Tabs (Tryd.laysValid_ren.g 3) (Tryd.laysValid_ren.g 4) w

set_option maxHeartbeats 1000000 in
set_option maxRecDepth 1000000 in
theorem pName (s : ByteArray) (w : World) (hs : s.size ≤ 9223372036854775807) (hT : UtfI w) :
    Calls Tryd.prog 11 #[.string s] w fun e w' => e = .returned (.bool (nm s)) ∧ Below w.heap.size w w' := by
  have cV : Calls Tryd.prog 25 #[.string s] w _ := Any.utf8_ValidString Tryd.laysValid s w (by omega) hT
  unfold nm
  generalize Lib.validD s.data.toList = V at cV ⊢
  have CV := hideM cV
  clear cV
  by_cases h0 : s.size ≤ 64
  · have h0z : decide ((s.size : Int) ≤ 64) = true := by simp; omega
    rw [h0z, Bool.true_and]
    go_enter Tryd.func11, Tryd.ntmps11
    go_wp2_with fail
    refine CV.out.mono ?_
    rintro e w' ⟨rfl, hb⟩
    go_wp2
    go_ret
    exact ⟨rfl, hb⟩
  · have h0z : decide ((s.size : Int) ≤ 64) = false := by simp; omega
    rw [h0z, Bool.false_and]
    clear CV
    go_enter Tryd.func11, Tryd.ntmps11
    go_wp2
    go_ret
    exact ⟨rfl, Below.refl _ _⟩
end YtmedpblpcfobdaaDoor
end Go.Proofs

/- Limits one behind the other, as cells. -/
namespace Go.Proofs
open Go.RowKit Go.Shelf Go.Lib

shelf_lay_g Lays8.n4 Nm8 4 at Tryd 82 as Tryd.growL

namespace YtmedpblpcfobdaaDoor
open Go.RowKit Rep
namespace Rep
def limCells : List Lim → List Value
  | [] => []
  | x :: r => .int .i64 x.min :: .int .i64 x.max :: .bool x.has :: limCells r
theorem limCells_len : ∀ l : List Lim, (limCells l).length = l.length * 3
  | [] => rfl
  | x :: r => by show (limCells r).length + 1 + 1 + 1 = (r.length + 1) * 3; rw [limCells_len r]; omega
theorem limCells_app : ∀ a b : List Lim, limCells (a ++ b) = limCells a ++ limCells b
  | [], _ => rfl
  | x :: r, b => by show _ :: _ :: _ :: limCells (r ++ b) = _; rw [limCells_app r b]; rfl
theorem limCells_one : ∀ (l : List Lim) (u : Value), u ∈ limCells l → u.oneCell' = true
  | [], _, h => by cases h
  | x :: r, u, h => by
    simp only [limCells, List.mem_cons] at h
    rcases h with rfl | rfl | rfl | h
    · rfl
    · rfl
    · rfl
    · exact limCells_one r u h
theorem limCells_get : ∀ (l : List Lim) (i : Nat) (x : Lim), l[i]? = some x → (limCells l)[i * 3]? = some (.int .i64 x.min) ∧ (limCells l)[i * 3 + 1]? = some (.int .i64 x.max) ∧ (limCells l)[i * 3 + 2]? = some (.bool x.has)
  | [], _, _, h => by simp at h
  | y :: r, 0, x, h => by
    simp at h; subst h; exact ⟨rfl, rfl, rfl⟩
  | y :: r, i + 1, x, h => by
    have h' : r[i]? = some x := by simpa using h
    have := limCells_get r i x h'
    have e : (i + 1) * 3 = i * 3 + 1 + 1 + 1 := by omega
    rw [e]
    simpa [limCells] using this
theorem limCells_at {w : World} {b off : Nat} : ∀ (l : List Lim) (o : Nat), (∀ (i : Nat) (x : Lim), l[i]? = some x → LimAt w b (o + i * 3) x) → ∀ j u, (limCells l)[j]? = some u → w.cell? ⟨b, o + j, none⟩ = some u
  | [], _, _, _, _, h => by simp [limCells] at h
  | x :: r, o, hx, j, u, h => by
    have h0 := hx 0 x rfl
    match j, h with
    | 0, h => simp [limCells] at h; subst h; simpa using h0.min
    | 1, h => simp [limCells] at h; subst h; simpa using h0.max
    | 2, h => simp [limCells] at h; subst h; simpa using h0.has
    | j + 3, h =>
      have h' : (limCells r)[j]? = some u := by simpa [limCells] using h
      have := limCells_at (b := b) (off := off) r (o + 3) (fun i y hy => by
        have := hx (i + 1) y (by simpa using hy)
        rw [show o + 3 + i * 3 = o + (i + 1) * 3 by omega]; exact this) j u h'
      rw [show o + (j + 3) = o + 3 + j by omega]; exact this
end Rep
end YtmedpblpcfobdaaDoor
end Go.Proofs
