/- From what the form calls data to modules as they lie in memory. -/
import Derived.Test.YtagoajoaojakhaaDoorMod
import Derived.ProofKit
import Derived.OpenShut
import Derived.Lib.SmallJoins
namespace Go.Proofs.YtagoajoaojakhaaDoor
open Go.RowKit Rep
set_option linter.unusedVariables false
namespace Rep
theorem choose_list {α : Type} (n : Nat) (f : Nat → α → Prop) (h : ∀ i, i < n → ∃ x, f i x) : ∃ l : List α, l.length = n ∧ ∀ i x, l[i]? = some x → f i x := by
  induction n with
  | zero => exact ⟨[], rfl, fun i x hx => by simp at hx⟩
  | succ n ih =>
    obtain ⟨l, hl, hf⟩ := ih fun i hi => h i (by omega)
    obtain ⟨x, hx⟩ := h n (by omega)
    refine ⟨l ++ [x], by simp [hl], fun i y hy => ?_⟩
    by_cases hi : i < n
    · rw [List.getElem?_append_left (by omega)] at hy; exact hf i y hy
    · have hlt : i < (l ++ [x]).length := (List.getElem?_eq_some_iff.1 hy).1
      have hi' : i = n := by simp [hl] at hlt; omega
      subst hi'
      rw [← hl] at hy
      simp at hy
      subst hy
      exact hx
theorem spot_none {w : World} {a : Addr} {v : Value} (h : w.cell? a = some v) : a.spot = none := by
  obtain ⟨b, o, sp⟩ := a
  cases sp with
  | none => rfl
  | some x =>
    unfold World.cell? at h
    split at h <;> simp at h
theorem add_addr (b o k : Nat) : (⟨b, o, none⟩ : Addr).add k = ⟨b, o + k, none⟩ := by
  by_cases hk : k = 0
  · subst hk; rfl
  · simp [Addr.add, hk]
variable {H : Type} {enc : TypeId × Value → H} {P : Program} {w : World} {base : Nat} {spare : Nat → Bool} {held : Bool}
theorem row_of_trod {α : Type} {t e : TypeId} {v : Value} {x : DataW H × List MemPlace} {fuel : Nat} (c : Nat) (hc : 0 < c) (f : Nat → Nat → α → Prop) (ht : P.underlying t = some (.slice e)) (hce : P.cellsOf e = c)
    (h : DataW.trod enc P w base spare held fuel t [v] = some x)
    (hel : ∀ n cs y b o, fuel = n + 1 → DataW.trod enc P w base spare held n e cs = some y → cs.length = c → (∀ j, j < c → w.cell? ⟨b, o + j, none⟩ = cs[j]?) → ∃ z, f b o z) :
    (∃ l, Row c f v l) ∧ ∀ n c', v = .slice none n c' → c' = 0 := by
  rcases DataW.trod_slice ht h with ⟨hv, _⟩ | ⟨a, len, cap, elems, rest, n, hfu, hv, _, _, hlc, hcm, hlen, hget, _, _⟩
  · obtain rfl : v = .slice none 0 0 := by simpa using hv
    exact ⟨⟨[], by simp, .inl ⟨rfl, none, 0, rfl⟩⟩, fun n c' h => by injection h with _ _ h3; exact h3.symm⟩
  · obtain rfl : v = .slice (some a) len cap := by simpa using hv
    refine ⟨?_, fun n c' h => by injection h with h1; cases h1⟩
    by_cases h0 : len = 0
    · subst h0
      exact ⟨[], by simp, .inl ⟨rfl, _, _, rfl⟩⟩
    · have hbind : ∀ i, i < len → ∃ cs y, w.cells? base (a.add (i * c)) c = some cs ∧ DataW.trod enc P w base spare held n e cs = some y := fun i hi => by
        have hg := hget i hi
        rw [hce] at hg
        obtain ⟨y, hy⟩ : ∃ y, elems[i]? = some y := ⟨_, List.getElem?_eq_getElem (by omega)⟩
        rw [hy] at hg
        obtain ⟨cs, h1, h2⟩ := Option.bind_eq_some_iff.1 hg
        exact ⟨cs, y, h1, h2⟩
      have hsp : a.spot = none := by
        obtain ⟨cs, y, h1, h2⟩ := hbind 0 (by omega)
        obtain ⟨_, hl, hcell⟩ := World.cells?_some h1
        have h3 := hcell 0 hc
        rw [Nat.zero_mul] at h3
        have : cs[0]? = some (cs[0]'(by omega)) := List.getElem?_eq_getElem (by omega)
        rw [this] at h3
        have := spot_none h3
        simpa [Addr.add] using this
      obtain ⟨b, off, sp⟩ := a
      simp only at hsp
      subst hsp
      obtain ⟨l, hl, hf⟩ := choose_list len (fun i z => f b (off + i * c) z) fun i hi => by
        obtain ⟨cs, y, h1, h2⟩ := hbind i hi
        obtain ⟨_, hl, hcell⟩ := World.cells?_some h1
        refine hel n cs y b (off + i * c) hfu h2 hl fun j hj => ?_
        have := hcell j hj
        rw [add_addr, add_addr] at this
        exact this
      subst hl
      exact ⟨l, by unfold maxLen at hcm; omega, .inr ⟨b, off, cap, rfl, hf⟩⟩
theorem field_get {fs : Array Field} {xs : List (DataW H × List MemPlace)} {cs : List Value} {n : Nat} (hl : xs.length = fs.size)
    (hall : ∀ (i : Nat) (f : Field), fs[i]? = some f → DataW.trod enc P w base spare held n f.type ((cs.drop f.offset).take (P.cellsOf f.type)) = xs[i]?) (i : Nat) (f : Field) (hf : fs[i]? = some f) :
    ∃ y, DataW.trod enc P w base spare held n f.type ((cs.drop f.offset).take (P.cellsOf f.type)) = some y := by
  have hi : i < fs.size := (Array.getElem?_eq_some_iff.1 hf).1
  exact ⟨xs[i]'(by omega), by rw [hall i f hf, List.getElem?_eq_getElem]⟩
theorem take_one {cs : List Value} {o : Nat} {v : Value} (h : (cs.drop o).take 1 = [v]) : cs[o]? = some v := by
  have := congrArg (·[0]?) h
  simpa [List.getElem?_take, List.getElem?_drop] using this
theorem int_field {t : TypeId} {n : Nat} {cs : List Value} {o : Nat} {y : DataW H × List MemPlace} (ht : P.underlying t = some (.int .i64)) (hc : P.cellsOf t = 1) (h : DataW.trod enc P w base spare held n t ((cs.drop o).take (P.cellsOf t)) = some y) : ∃ z : Int, cs[o]? = some (.int .i64 z) ∧ (Lit.int .i64 z).wf = true := by
  rw [hc] at h
  obtain ⟨z, h1, _, h2⟩ := DataW.trod_int ht h
  exact ⟨z, take_one h1, h2⟩
theorem bool_field {t : TypeId} {n : Nat} {cs : List Value} {o : Nat} {y : DataW H × List MemPlace} (ht : P.underlying t = some .bool) (hc : P.cellsOf t = 1) (h : DataW.trod enc P w base spare held n t ((cs.drop o).take (P.cellsOf t)) = some y) : ∃ z : Bool, cs[o]? = some (.bool z) := by
  rw [hc] at h
  obtain ⟨z, h1, _⟩ := DataW.trod_bool ht h
  exact ⟨z, take_one h1⟩
theorem str_field {t : TypeId} {n : Nat} {cs : List Value} {o : Nat} {y : DataW H × List MemPlace} (ht : P.underlying t = some .string) (hc : P.cellsOf t = 1) (h : DataW.trod enc P w base spare held n t ((cs.drop o).take (P.cellsOf t)) = some y) : ∃ z : ByteArray, cs[o]? = some (.string z) ∧ z.size ≤ 9223372036854775807 := by
  rw [hc] at h
  obtain ⟨z, h1, _, h2⟩ := DataW.trod_string ht h
  exact ⟨z, take_one h1, by unfold maxLen at h2; omega⟩
theorem slice_field {t e : TypeId} {n : Nat} {cs : List Value} {o : Nat} {y : DataW H × List MemPlace} (ht : P.underlying t = some (.slice e)) (hc : P.cellsOf t = 1) (h : DataW.trod enc P w base spare held n t ((cs.drop o).take (P.cellsOf t)) = some y) : ∃ v, cs[o]? = some v ∧ DataW.trod enc P w base spare held n t [v] = some y := by
  rw [hc] at h
  rcases DataW.trod_slice ht h with ⟨hv, _⟩ | ⟨a, len, cap, _, _, _, _, hv, _⟩
  · rw [hv] at h; exact ⟨_, take_one hv, h⟩
  · rw [hv] at h; exact ⟨_, take_one hv, h⟩
theorem row_mem {α : Type} {c : Nat} {f : Nat → Nat → α → Prop} {g : α → Prop} {v : Value} {l : List α} (h : Row c (fun b o x => f b o x ∧ g x) v l) : ∀ x ∈ l, g x := by
  intro x hx
  rcases h.2 with ⟨rfl, _⟩ | ⟨b, off, cap, _, hc⟩
  · cases hx
  · obtain ⟨i, hi, rfl⟩ := List.getElem_of_mem hx
    exact (hc i _ (List.getElem?_eq_getElem hi)).2
end Rep

theorem cInt : Tryd.prog.cellsOf 3 = 1 := by kernel_rfl
theorem cBool : Tryd.prog.cellsOf 4 = 1 := by kernel_rfl
theorem cStr : Tryd.prog.cellsOf 9 = 1 := by kernel_rfl

section Of
variable {H : Type} {enc : TypeId × Value → H} {w : World} {base : Nat} {spare : Nat → Bool} {held : Bool}
end Of
end Go.Proofs.YtagoajoaojakhaaDoor
