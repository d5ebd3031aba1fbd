/- Walks over all functions of a module, as plain functions. -/
import Derived.Test.YtloelineidlenaaGreatDoorW1
namespace Go.Proofs.YtloelineidlenaaGreatDoor
open Go.RowKit Rep
namespace Rep
def goF {σ : Type} (step : σ → Sn → Nat → Option σ) (d : Nat) : List (Fun d) → σ → Option σ
  | [], s => some s
  | f :: r, s => (goI step d f.body 0 s).bind fun s1 => goF step d r s1
theorem goF_end {σ : Type} {step : σ → Sn → Nat → Option σ} {d : Nat} {l : List (Fun d)} {j : Nat} {s : σ} (h : l.length ≤ j) : goF step d (l.drop j) s = some s := by
  rw [List.drop_of_length_le h]; rfl
theorem goF_on {σ : Type} {step : σ → Sn → Nat → Option σ} {d : Nat} {l : List (Fun d)} {j : Nat} {s : σ} {x : Fun d} (hx : l[j]? = some x) :
    goF step d (l.drop j) s = (goI step d x.body 0 s).bind fun s1 => goF step d (l.drop (j + 1)) s1 := by
  have hl : j < l.length := (List.getElem?_eq_some_iff.1 hx).1
  have he : l[j] = x := (List.getElem?_eq_some_iff.1 hx).2
  rw [List.drop_eq_getElem_cons hl, he]
  rfl
def IsSlice (v : Value) : Prop := ∃ o n c, v = .slice o n c
def TenSlices (v0 v1 v3 v4 v5 v6 v7 v8 v9 : Value) : Prop := IsSlice v0 ∧ IsSlice v1 ∧ IsSlice v3 ∧ IsSlice v4 ∧ IsSlice v5 ∧ IsSlice v6 ∧ IsSlice v7 ∧ IsSlice v8 ∧ IsSlice v9
theorem Row.slice {α : Type} {size : Nat} {f : Nat → Nat → α → Prop} {v : Value} {l : List α} (h : Row size f v l) : IsSlice v := let ⟨o, c, e⟩ := Row.len h; ⟨o, l.length, c, e⟩
theorem ModAt.ten {w : World} {d : Nat} {v0 v1 v2 v3 v4 v5 v6 v7 v8 v9 : Value} {m : Mod d} (h : ModAt w d v0 v1 v2 v3 v4 v5 v6 v7 v8 v9 m) : TenSlices v0 v1 v3 v4 v5 v6 v7 v8 v9 :=
  ⟨h.types.slice, h.imports.slice, h.tables.slice, h.mems.slice, h.globals.slice, h.exports.slice, Row.slice h.start, h.elems.slice, h.datas.slice⟩
end Rep
end Go.Proofs.YtloelineidlenaaGreatDoor
