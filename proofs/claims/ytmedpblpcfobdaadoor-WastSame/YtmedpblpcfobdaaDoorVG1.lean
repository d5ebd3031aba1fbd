/- When two modules are the same, in plain words. -/
import Derived.Test.YtmedpblpcfobdaaDoorVC2
import Derived.Test.YtmedpblpcfobdaaDoorVK14
import Derived.Test.YtmedpblpcfobdaaDoorVG0
namespace Go.Proofs.YtmedpblpcfobdaaDoor
open Go.RowKit Rep
set_option linter.unusedVariables false
namespace Rep
def samB {α : Type} (f : α → α → Bool) : List α → List α → Bool
  | [], [] => true
  | x :: r, y :: s => f x y && samB f r s
  | _, _ => false
theorem samB_on {α : Type} {f : α → α → Bool} {a b : List α} {j : Nat} {x y : α} {R S : Bool} (hx : a[j]? = some x) (hy : b[j]? = some y) (h : R = (samB f (a.drop j) (b.drop j) && S)) : R = ((f x y && samB f (a.drop (j + 1)) (b.drop (j + 1))) && S) := by
  have e1 : a.drop j = x :: a.drop (j + 1) := by
    rw [List.drop_eq_getElem_cons (List.getElem?_eq_some_iff.1 hx).1, (List.getElem?_eq_some_iff.1 hx).2]
  have e2 : b.drop j = y :: b.drop (j + 1) := by
    rw [List.drop_eq_getElem_cons (List.getElem?_eq_some_iff.1 hy).1, (List.getElem?_eq_some_iff.1 hy).2]
  rw [e1, e2] at h
  exact h
theorem samB_end {α : Type} {f : α → α → Bool} {a b : List α} {j : Nat} {R S : Bool} (ha : a.length ≤ j) (hb : b.length ≤ j) (h : R = (samB f (a.drop j) (b.drop j) && S)) : R = S := by
  rw [List.drop_eq_nil_of_le ha, List.drop_eq_nil_of_le hb] at h
  exact h
theorem samB_refl {α : Type} {f : α → α → Bool} (hf : ∀ x, f x x = true) : ∀ l, samB f l l = true
  | [] => rfl
  | x :: r => by unfold samB; rw [hf, samB_refl hf r]; rfl
theorem samL_refl {α : Type} {f : α → α → Bool} (hf : ∀ x, f x x = true) : ∀ l, samL f l l = true
  | [] => rfl
  | x :: r => by unfold samL sam1; rw [samL_refl hf r, hf, hf]; simp
theorem samI_refl : ∀ (d : Nat) (l : IL d), samI d l l = true
  | 0, _ => rfl
  | d + 1, l => samL_refl (samI_refl d) l
theorem sam1_refl {d : Nat} (x : Ins (IL d)) : sam1 (samI d) x x = true := by unfold sam1; rw [samI_refl, samI_refl]; simp
def fT (x y : FT) : Bool := decide (x.params = y.params) && decide (x.results = y.results)
def fI (x y : Imp) : Bool := (x.mod.toList == y.mod.toList) && ((x.name.toList == y.name.toList) && (x.type == y.type))
def fF {d : Nat} (x y : Fun d) : Bool := ((x.type == y.type) && decide (x.locals = y.locals)) && samI d x.body y.body
def fL (x y : Lim) : Bool := (x.min == y.min) && ((x.max == y.max) && (x.has == y.has))
def fG {d : Nat} (x y : Glo d) : Bool := ((x.type == y.type) && (x.mtb == y.mtb)) && sam1 (samI d) x.init y.init
def fX (x y : Exp) : Bool := (x.name.toList == y.name.toList) && ((x.kind == y.kind) && (x.index == y.index))
def fE {d : Nat} (x y : Elm d) : Bool := sam1 (samI d) x.offset y.offset && decide (x.funcs = y.funcs)
def fD {d : Nat} (x y : Dat d) : Bool := (x.bytes.toList == y.bytes.toList) && sam1 (samI d) x.offset y.offset
def lq (a b : Nat) : Bool := ((a : Int) == (b : Int))
theorem lq_iff {a b : Nat} : lq a b = true ↔ a = b := by unfold lq; rw [beq_iff_eq]; omega
/-- the lengths, and where it begins -/
def szs {d : Nat} (m k : Mod d) : Bool := (((((((((lq m.types.length k.types.length && lq m.imports.length k.imports.length) && lq m.funcs.length k.funcs.length) && lq m.tables.length k.tables.length) && lq m.mems.length k.mems.length) && lq m.globals.length k.globals.length) && lq m.exports.length k.exports.length) && decide (m.start = k.start)) && lq m.elems.length k.elems.length) && lq m.datas.length k.datas.length)
def samM {d : Nat} (m k : Mod d) : Bool := szs m k && (samB fT m.types k.types && (samB fI m.imports k.imports && (samB fF m.funcs k.funcs && (samB fL m.tables k.tables && (samB fL m.mems k.mems && (samB fG m.globals k.globals && (samB fX m.exports k.exports && (samB fE m.elems k.elems && (samB fD m.datas k.datas && true)))))))))
theorem samM_refl {d : Nat} (m : Mod d) : samM m m = true := by
  unfold samM szs
  rw [samB_refl (f := fT) (fun x => by simp [fT]), samB_refl (f := fI) (fun x => by simp [fI]), samB_refl (f := fF) (fun x => by simp [fF, samI_refl]), samB_refl (f := fL) (fun x => by simp [fL]), samB_refl (f := fL) (fun x => by simp [fL]), samB_refl (f := fG) (fun x => by simp [fG, sam1_refl]), samB_refl (f := fX) (fun x => by simp [fX]), samB_refl (f := fE) (fun x => by simp [fE, sam1_refl]), samB_refl (f := fD) (fun x => by simp [fD, sam1_refl])]
  simp [lq]
def sIf (c : Bool) (x : Value) : Stab := sEq (if c then x else undef)
def sBox (c0 c1 c2 c3 c4 c5 c6 c7 c8 c9 : Value) : Stab := ⟨fun v w => ∃ g, v = .pointer (some ⟨g, 0, none⟩) ∧ BlkM w g c0 c1 c2 c3 c4 c5 c6 c7 c8 c9, fun v w w' ⟨g, h1, h2⟩ hb => ⟨g, h1, h2.on hb⟩⟩
def sFld (i : Nat) (c0 c1 c2 c3 c4 c5 c6 c7 c8 c9 : Value) : Stab := ⟨fun v w => ∃ g, v = .pointer (some ⟨g, i, none⟩) ∧ BlkM w g c0 c1 c2 c3 c4 c5 c6 c7 c8 c9, fun v w w' ⟨g, h1, h2⟩ hb => ⟨g, h1, h2.on hb⟩⟩
def sFldIf (c : Bool) (i : Nat) (c0 c1 c2 c3 c4 c5 c6 c7 c8 c9 : Value) : Stab := ⟨fun v w => if c then ∃ g, v = .pointer (some ⟨g, i, none⟩) ∧ BlkM w g c0 c1 c2 c3 c4 c5 c6 c7 c8 c9 else v = undef, fun v w w' h hb => by
  cases c with
  | true => obtain ⟨g, h1, h2⟩ := h; exact ⟨g, h1, h2.on hb⟩
  | false => exact h⟩
end Rep
end Go.Proofs.YtmedpblpcfobdaaDoor
