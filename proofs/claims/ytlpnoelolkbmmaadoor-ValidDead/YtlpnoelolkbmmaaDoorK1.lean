/- From what the form calls data to modules as they lie in memory. -/
import Derived.Test.YtlpnoelolkbmmaaDoorMod
import Derived.ProofKit
import Derived.OpenShut
import Derived.Lib.SmallJoins
namespace Go.Proofs.YtlpnoelolkbmmaaDoor
open Go.RowKit Rep
set_option linter.unusedVariables false
namespace Rep
theorem choose_list {α : Type} (n : Nat) (f : Nat → α → Prop) (h : ∀ i, i < n → ∃ x, f i x) : ∃ l : List α, l.length = n ∧ ∀ i x, l[i]? = some x → f i x := by
  induction n with
  | zero => exact ⟨[], rfl, fun i x hx => by simp at hx⟩
  | succ n ih =>
    obtain ⟨l, hl, hf⟩ := ih fun i hi => h i (by omega)
    obtain ⟨x, hx⟩ := h n (by omega)
    refine ⟨l ++ [x], by simp [hl], fun i y hy => ?_⟩
    by_cases hi : i < n
    · rw [List.getElem?_append_left (by omega)] at hy; exact hf i y hy
    · have hlt : i < (l ++ [x]).length := (List.getElem?_eq_some_iff.1 hy).1
      have hi' : i = n := by simp [hl] at hlt; omega
      subst hi'
      rw [← hl] at hy
      simp at hy
      subst hy
      exact hx
theorem spot_none {w : World} {a : Addr} {v : Value} (h : w.cell? a = some v) : a.spot = none := by
  obtain ⟨b, o, sp⟩ := a
  cases sp with
  | none => rfl
  | some x =>
    unfold World.cell? at h
    split at h <;> simp at h
theorem add_addr (b o k : Nat) : (⟨b, o, none⟩ : Addr).add k = ⟨b, o + k, none⟩ := by
  by_cases hk : k = 0
  · subst hk; rfl
  · simp [Addr.add, hk]
variable {H : Type} {enc : TypeId × Value → H} {P : Program} {w : World} {base : Nat} {spare : Nat → Bool} {held : Bool}
theorem row_of_trod {α : Type} {t e : TypeId} {v : Value} {x : DataW H × List MemPlace} {fuel : Nat} (c : Nat) (hc : 0 < c) (f : Nat → Nat → α → Prop) (ht : P.underlying t = some (.slice e)) (hce : P.cellsOf e = c)
    (h : DataW.trod enc P w base spare held fuel t [v] = some x)
    (hel : ∀ n cs y b o, fuel = n + 1 → DataW.trod enc P w base spare held n e cs = some y → cs.length = c → (∀ j, j < c → w.cell? ⟨b, o + j, none⟩ = cs[j]?) → ∃ z, f b o z) :
    (∃ l, Row c f v l) ∧ ∀ n c', v = .slice none n c' → c' = 0 := by
  rcases DataW.trod_slice ht h with ⟨hv, _⟩ | ⟨a, len, cap, elems, rest, n, hfu, hv, _, _, hlc, hcm, hlen, hget, _, _⟩
  · obtain rfl : v = .slice none 0 0 := by simpa using hv
    exact ⟨⟨[], by simp, .inl ⟨rfl, none, 0, rfl⟩⟩, fun n c' h => by injection h with _ _ h3; exact h3.symm⟩
  · obtain rfl : v = .slice (some a) len cap := by simpa using hv
    refine ⟨?_, fun n c' h => by injection h with h1; cases h1⟩
    by_cases h0 : len = 0
    · subst h0
      exact ⟨[], by simp, .inl ⟨rfl, _, _, rfl⟩⟩
    · have hbind : ∀ i, i < len → ∃ cs y, w.cells? base (a.add (i * c)) c = some cs ∧ DataW.trod enc P w base spare held n e cs = some y := fun i hi => by
        have hg := hget i hi
        rw [hce] at hg
        obtain ⟨y, hy⟩ : ∃ y, elems[i]? = some y := ⟨_, List.getElem?_eq_getElem (by omega)⟩
        rw [hy] at hg
        obtain ⟨cs, h1, h2⟩ := Option.bind_eq_some_iff.1 hg
        exact ⟨cs, y, h1, h2⟩
      have hsp : a.spot = none := by
        obtain ⟨cs, y, h1, h2⟩ := hbind 0 (by omega)
        obtain ⟨_, hl, hcell⟩ := World.cells?_some h1
        have h3 := hcell 0 hc
        rw [Nat.zero_mul] at h3
        have : cs[0]? = some (cs[0]'(by omega)) := List.getElem?_eq_getElem (by omega)
        rw [this] at h3
        have := spot_none h3
        simpa [Addr.add] using this
      obtain ⟨b, off, sp⟩ := a
      simp only at hsp
      subst hsp
      obtain ⟨l, hl, hf⟩ := choose_list len (fun i z => f b (off + i * c) z) fun i hi => by
        obtain ⟨cs, y, h1, h2⟩ := hbind i hi
        obtain ⟨_, hl, hcell⟩ := World.cells?_some h1
        refine hel n cs y b (off + i * c) hfu h2 hl fun j hj => ?_
        have := hcell j hj
        rw [add_addr, add_addr] at this
        exact this
      subst hl
      exact ⟨l, by unfold maxLen at hcm; omega, .inr ⟨b, off, cap, rfl, hf⟩⟩
theorem field_get {fs : Array Field} {xs : List (DataW H × List MemPlace)} {cs : List Value} {n : Nat} (hl : xs.length = fs.size)
    (hall : ∀ (i : Nat) (f : Field), fs[i]? = some f → DataW.trod enc P w base spare held n f.type ((cs.drop f.offset).take (P.cellsOf f.type)) = xs[i]?) (i : Nat) (f : Field) (hf : fs[i]? = some f) :
    ∃ y, DataW.trod enc P w base spare held n f.type ((cs.drop f.offset).take (P.cellsOf f.type)) = some y := by
  have hi : i < fs.size := (Array.getElem?_eq_some_iff.1 hf).1
  exact ⟨xs[i]'(by omega), by rw [hall i f hf, List.getElem?_eq_getElem]⟩
theorem take_one {cs : List Value} {o : Nat} {v : Value} (h : (cs.drop o).take 1 = [v]) : cs[o]? = some v := by
  have := congrArg (·[0]?) h
  simpa [List.getElem?_take, List.getElem?_drop] using this
theorem int_field {t : TypeId} {n : Nat} {cs : List Value} {o : Nat} {y : DataW H × List MemPlace} (ht : P.underlying t = some (.int .i64)) (hc : P.cellsOf t = 1) (h : DataW.trod enc P w base spare held n t ((cs.drop o).take (P.cellsOf t)) = some y) : ∃ z : Int, cs[o]? = some (.int .i64 z) ∧ (Lit.int .i64 z).wf = true := by
  rw [hc] at h
  obtain ⟨z, h1, _, h2⟩ := DataW.trod_int ht h
  exact ⟨z, take_one h1, h2⟩
theorem bool_field {t : TypeId} {n : Nat} {cs : List Value} {o : Nat} {y : DataW H × List MemPlace} (ht : P.underlying t = some .bool) (hc : P.cellsOf t = 1) (h : DataW.trod enc P w base spare held n t ((cs.drop o).take (P.cellsOf t)) = some y) : ∃ z : Bool, cs[o]? = some (.bool z) := by
  rw [hc] at h
  obtain ⟨z, h1, _⟩ := DataW.trod_bool ht h
  exact ⟨z, take_one h1⟩
theorem str_field {t : TypeId} {n : Nat} {cs : List Value} {o : Nat} {y : DataW H × List MemPlace} (ht : P.underlying t = some .string) (hc : P.cellsOf t = 1) (h : DataW.trod enc P w base spare held n t ((cs.drop o).take (P.cellsOf t)) = some y) : ∃ z : ByteArray, cs[o]? = some (.string z) ∧ z.size ≤ 9223372036854775807 := by
  rw [hc] at h
  obtain ⟨z, h1, _, h2⟩ := DataW.trod_string ht h
  exact ⟨z, take_one h1, by unfold maxLen at h2; omega⟩
theorem slice_field {t e : TypeId} {n : Nat} {cs : List Value} {o : Nat} {y : DataW H × List MemPlace} (ht : P.underlying t = some (.slice e)) (hc : P.cellsOf t = 1) (h : DataW.trod enc P w base spare held n t ((cs.drop o).take (P.cellsOf t)) = some y) : ∃ v, cs[o]? = some v ∧ DataW.trod enc P w base spare held n t [v] = some y := by
  rw [hc] at h
  rcases DataW.trod_slice ht h with ⟨hv, _⟩ | ⟨a, len, cap, _, _, _, _, hv, _⟩
  · rw [hv] at h; exact ⟨_, take_one hv, h⟩
  · rw [hv] at h; exact ⟨_, take_one hv, h⟩
theorem row_mem {α : Type} {c : Nat} {f : Nat → Nat → α → Prop} {g : α → Prop} {v : Value} {l : List α} (h : Row c (fun b o x => f b o x ∧ g x) v l) : ∀ x ∈ l, g x := by
  intro x hx
  rcases h.2 with ⟨rfl, _⟩ | ⟨b, off, cap, _, hc⟩
  · cases hx
  · obtain ⟨i, hi, rfl⟩ := List.getElem_of_mem hx
    exact (hc i _ (List.getElem?_eq_getElem hi)).2
end Rep

theorem cInt : Tryd.prog.cellsOf 3 = 1 := by kernel_rfl
theorem cBool : Tryd.prog.cellsOf 4 = 1 := by kernel_rfl
theorem cStr : Tryd.prog.cellsOf 9 = 1 := by kernel_rfl
theorem cInts : Tryd.prog.cellsOf 23 = 1 := by kernel_rfl
theorem cInstrs : Tryd.prog.cellsOf 24 = 1 := by kernel_rfl
theorem cInstr : Tryd.prog.cellsOf 26 = 7 := by kernel_rfl
theorem cFT : Tryd.prog.cellsOf 28 = 2 := by kernel_rfl
theorem cImp : Tryd.prog.cellsOf 69 = 3 := by kernel_rfl
theorem cFun : Tryd.prog.cellsOf 31 = 3 := by kernel_rfl
theorem cLim : Tryd.prog.cellsOf 72 = 3 := by kernel_rfl
theorem cGlo : Tryd.prog.cellsOf 74 = 9 := by kernel_rfl
theorem cExp : Tryd.prog.cellsOf 77 = 3 := by kernel_rfl
theorem cElm : Tryd.prog.cellsOf 82 = 8 := by kernel_rfl
theorem cDat : Tryd.prog.cellsOf 84 = 8 := by kernel_rfl
theorem cMod : Tryd.prog.cellsOf 40 = 10 := by kernel_rfl

section Of
variable {H : Type} {enc : TypeId × Value → H} {w : World} {base : Nat} {spare : Nat → Bool} {held : Bool}
theorem ints_of {fuel : Nat} {v : Value} {x : DataW H × List MemPlace} (h : DataW.trod enc Tryd.prog w base spare held fuel 23 [v] = some x) : ∃ l, Ints w v l := by
  refine (row_of_trod 1 (by omega) _ Tryd.underlying23 cInt h fun n cs y b o _ hy hl hc => ?_).1
  obtain ⟨z, h1, _, _⟩ := DataW.trod_int Tryd.underlying3 hy
  refine ⟨z, ?_⟩
  have := hc 0 (by omega)
  rw [h1] at this
  simpa using this
/-- an instruction's seven cells -/
theorem ins_of {n d : Nat} {cs : List Value} {y : DataW H × List MemPlace} {b o : Nat} (hy : DataW.trod enc Tryd.prog w base spare held n 26 cs = some y) (hc : ∀ j, j < 7 → w.cell? ⟨b, o + j, none⟩ = cs[j]?)
    (ih : ∀ m v x, n = m + 1 → DataW.trod enc Tryd.prog w base spare held m 24 [v] = some x → ∃ l : IL d, At w d v l) : ∃ z : Ins (IL d), InsAt w (At w d) b o z := by
  obtain ⟨xs, m, rfl, _, _, hxl, hall⟩ := DataW.trod_struct Tryd.underlying26 hy
  obtain ⟨y0, g0⟩ := field_get hxl hall 0 _ rfl
  obtain ⟨y1, g1⟩ := field_get hxl hall 1 _ rfl
  obtain ⟨y2, g2⟩ := field_get hxl hall 2 _ rfl
  obtain ⟨y3, g3⟩ := field_get hxl hall 3 _ rfl
  obtain ⟨y4, g4⟩ := field_get hxl hall 4 _ rfl
  obtain ⟨y5, g5⟩ := field_get hxl hall 5 _ rfl
  obtain ⟨y6, g6⟩ := field_get hxl hall 6 _ rfl
  obtain ⟨z0, e0, _⟩ := int_field Tryd.underlying3 cInt g0
  obtain ⟨z1, e1, _⟩ := int_field Tryd.underlying3 cInt g1
  obtain ⟨z2, e2, _⟩ := int_field Tryd.underlying3 cInt g2
  obtain ⟨z3, e3, _⟩ := int_field Tryd.underlying3 cInt g3
  obtain ⟨v4, e4, t4⟩ := slice_field Tryd.underlying23 cInts g4
  obtain ⟨v5, e5, t5⟩ := slice_field Tryd.underlying24 cInstrs g5
  obtain ⟨v6, e6, t6⟩ := slice_field Tryd.underlying24 cInstrs g6
  obtain ⟨l4, h4⟩ := ints_of t4
  obtain ⟨l5, h5⟩ := ih m v5 _ rfl t5
  obtain ⟨l6, h6⟩ := ih m v6 _ rfl t6
  exact ⟨⟨z0, z1, z2, z3, l4, l5, l6⟩, (hc 0 (by omega)).trans e0, (hc 1 (by omega)).trans e1, (hc 2 (by omega)).trans e2, (hc 3 (by omega)).trans e3, ⟨v4, (hc 4 (by omega)).trans e4, h4⟩, ⟨v5, (hc 5 (by omega)).trans e5, h5⟩, ⟨v6, (hc 6 (by omega)).trans e6, h6⟩⟩
theorem at_of (fuel : Nat) : ∀ (d : Nat) (v : Value) (x : DataW H × List MemPlace), fuel ≤ d → DataW.trod enc Tryd.prog w base spare held fuel 24 [v] = some x → ∃ l : IL d, At w d v l := by
  induction fuel using Nat.strongRecOn with
  | _ fuel ih =>
    intro d v x hd h
    cases d with
    | zero =>
      obtain rfl : fuel = 0 := by omega
      simp [DataW.trod] at h
    | succ d =>
      obtain ⟨⟨l, hl⟩, _⟩ := row_of_trod (α := Ins (IL d)) 7 (by omega) (InsAt w (At w d)) Tryd.underlying24 cInstr h fun n cs y b o hn hy _ hc =>
        ins_of hy hc fun m' v x hm hx => ih m' (by omega) d v x (by omega) hx
      exact ⟨l, hl⟩
theorem ins_of' {n d : Nat} {cs : List Value} {y : DataW H × List MemPlace} {b o : Nat} (hn : n ≤ d) (hy : DataW.trod enc Tryd.prog w base spare held n 26 cs = some y) (hc : ∀ j, j < 7 → w.cell? ⟨b, o + j, none⟩ = cs[j]?) : ∃ z : Ins (IL d), InsAt w (At w d) b o z :=
  ins_of hy hc fun m v x hm hx => at_of m d v x (by omega) hx
set_option maxRecDepth 100000 in
theorem mod_of {fuel d : Nat} {v0 v1 v2 v3 v4 v5 v6 v7 v8 v9 : Value} {x : DataW H × List MemPlace} (hd : fuel ≤ d) (h : DataW.trod enc Tryd.prog w base spare held fuel 40 [v0, v1, v2, v3, v4, v5, v6, v7, v8, v9] = some x) :
    ∃ m : Mod d, ModAt w d v0 v1 v2 v3 v4 v5 v6 v7 v8 v9 m ∧ (∀ x ∈ m.datas, x.bytes.size ≤ 9223372036854775807) ∧ (∀ x ∈ m.imports, x.mod.size ≤ 9223372036854775807 ∧ x.name.size ≤ 9223372036854775807) ∧ (∀ x ∈ m.exports, x.name.size ≤ 9223372036854775807) ∧
      (∀ n c, v3 = .slice none n c → c = 0) ∧ (∀ n c, v4 = .slice none n c → c = 0) := by
  obtain ⟨xs, m, rfl, _, _, hxl, hall⟩ := DataW.trod_struct Tryd.underlying40 h
  obtain ⟨y0, g0⟩ := field_get hxl hall 0 _ rfl
  obtain ⟨u0, e0, t0⟩ := slice_field Tryd.underlying29 (by kernel_rfl) g0
  obtain rfl : v0 = u0 := by simpa using e0
  obtain ⟨y1, g1⟩ := field_get hxl hall 1 _ rfl
  obtain ⟨u1, e1, t1⟩ := slice_field Tryd.underlying33 (by kernel_rfl) g1
  obtain rfl : v1 = u1 := by simpa using e1
  obtain ⟨y2, g2⟩ := field_get hxl hall 2 _ rfl
  obtain ⟨u2, e2, t2⟩ := slice_field Tryd.underlying32 (by kernel_rfl) g2
  obtain rfl : v2 = u2 := by simpa using e2
  obtain ⟨y3, g3⟩ := field_get hxl hall 3 _ rfl
  obtain ⟨u3, e3, t3⟩ := slice_field Tryd.underlying34 (by kernel_rfl) g3
  obtain rfl : v3 = u3 := by simpa using e3
  obtain ⟨y4, g4⟩ := field_get hxl hall 4 _ rfl
  obtain ⟨u4, e4, t4⟩ := slice_field Tryd.underlying34 (by kernel_rfl) g4
  obtain rfl : v4 = u4 := by simpa using e4
  obtain ⟨y5, g5⟩ := field_get hxl hall 5 _ rfl
  obtain ⟨u5, e5, t5⟩ := slice_field Tryd.underlying35 (by kernel_rfl) g5
  obtain rfl : v5 = u5 := by simpa using e5
  obtain ⟨y6, g6⟩ := field_get hxl hall 6 _ rfl
  obtain ⟨u6, e6, t6⟩ := slice_field Tryd.underlying36 (by kernel_rfl) g6
  obtain rfl : v6 = u6 := by simpa using e6
  obtain ⟨y7, g7⟩ := field_get hxl hall 7 _ rfl
  obtain ⟨u7, e7, t7⟩ := slice_field Tryd.underlying23 (by kernel_rfl) g7
  obtain rfl : v7 = u7 := by simpa using e7
  obtain ⟨y8, g8⟩ := field_get hxl hall 8 _ rfl
  obtain ⟨u8, e8, t8⟩ := slice_field Tryd.underlying37 (by kernel_rfl) g8
  obtain rfl : v8 = u8 := by simpa using e8
  obtain ⟨y9, g9⟩ := field_get hxl hall 9 _ rfl
  obtain ⟨u9, e9, t9⟩ := slice_field Tryd.underlying38 (by kernel_rfl) g9
  obtain rfl : v9 = u9 := by simpa using e9
  obtain ⟨⟨l0, h0⟩, _⟩ := row_of_trod (α := FT) 2 (by omega) (FTAt w) Tryd.underlying29 cFT t0 fun n cs y b o hn hy _ hc => by
    obtain ⟨xs, k, rfl, _, _, hxl, hall⟩ := DataW.trod_struct Tryd.underlying28 hy
    obtain ⟨y0, g0⟩ := field_get hxl hall 0 _ rfl
    obtain ⟨y1, g1⟩ := field_get hxl hall 1 _ rfl
    obtain ⟨a0, e0, s0⟩ := slice_field Tryd.underlying23 cInts g0
    obtain ⟨a1, e1, s1⟩ := slice_field Tryd.underlying23 cInts g1
    obtain ⟨l0, i0⟩ := ints_of s0
    obtain ⟨l1, i1⟩ := ints_of s1
    exact ⟨⟨l0, l1⟩, ⟨a0, (hc 0 (by omega)).trans e0, i0⟩, ⟨a1, (hc 1 (by omega)).trans e1, i1⟩⟩
  obtain ⟨⟨l1, h1⟩, _⟩ := row_of_trod (α := Imp) 3 (by omega) (fun b o x => ImpAt w b o x ∧ (x.mod.size ≤ 9223372036854775807 ∧ x.name.size ≤ 9223372036854775807)) Tryd.underlying33 cImp t1 fun n cs y b o hn hy _ hc => by
    obtain ⟨xs, k, rfl, _, _, hxl, hall⟩ := DataW.trod_struct Tryd.underlying69 hy
    obtain ⟨y0, g0⟩ := field_get hxl hall 0 _ rfl
    obtain ⟨y1, g1⟩ := field_get hxl hall 1 _ rfl
    obtain ⟨y2, g2⟩ := field_get hxl hall 2 _ rfl
    obtain ⟨a0, e0, s0⟩ := str_field Tryd.underlying9 cStr g0
    obtain ⟨a1, e1, s1⟩ := str_field Tryd.underlying9 cStr g1
    obtain ⟨a2, e2, _⟩ := int_field Tryd.underlying3 cInt g2
    exact ⟨⟨a0, a1, a2⟩, ⟨(hc 0 (by omega)).trans e0, (hc 1 (by omega)).trans e1, (hc 2 (by omega)).trans e2⟩, s0, s1⟩
  obtain ⟨⟨l2, h2⟩, _⟩ := row_of_trod (α := Fun d) 3 (by omega) (FunAt w d) Tryd.underlying32 cFun t2 fun n cs y b o hn hy _ hc => by
    obtain ⟨xs, k, rfl, _, _, hxl, hall⟩ := DataW.trod_struct Tryd.underlying31 hy
    obtain ⟨y0, g0⟩ := field_get hxl hall 0 _ rfl
    obtain ⟨y1, g1⟩ := field_get hxl hall 1 _ rfl
    obtain ⟨y2, g2⟩ := field_get hxl hall 2 _ rfl
    obtain ⟨a0, e0, _⟩ := int_field Tryd.underlying3 cInt g0
    obtain ⟨a1, e1, s1⟩ := slice_field Tryd.underlying23 cInts g1
    obtain ⟨a2, e2, s2⟩ := slice_field Tryd.underlying24 cInstrs g2
    obtain ⟨i1, j1⟩ := ints_of s1
    obtain ⟨i2, j2⟩ := at_of _ d _ _ (by omega) s2
    exact ⟨⟨a0, i1, i2⟩, (hc 0 (by omega)).trans e0, ⟨a1, (hc 1 (by omega)).trans e1, j1⟩, ⟨a2, (hc 2 (by omega)).trans e2, j2⟩⟩
  have hlim : ∀ {n : Nat} {cs : List Value} {y : DataW H × List MemPlace} {b o : Nat}, DataW.trod enc Tryd.prog w base spare held n 72 cs = some y → (∀ j, j < 3 → w.cell? ⟨b, o + j, none⟩ = cs[j]?) → ∃ z, LimAt w b o z := fun {n cs y b o} hy hc => by
    obtain ⟨xs, k, rfl, _, _, hxl, hall⟩ := DataW.trod_struct Tryd.underlying72 hy
    obtain ⟨y0, g0⟩ := field_get hxl hall 0 _ rfl
    obtain ⟨y1, g1⟩ := field_get hxl hall 1 _ rfl
    obtain ⟨y2, g2⟩ := field_get hxl hall 2 _ rfl
    obtain ⟨a0, e0, _⟩ := int_field Tryd.underlying3 cInt g0
    obtain ⟨a1, e1, _⟩ := int_field Tryd.underlying3 cInt g1
    obtain ⟨a2, e2⟩ := bool_field Tryd.underlying4 cBool g2
    exact ⟨⟨a0, a1, a2⟩, (hc 0 (by omega)).trans e0, (hc 1 (by omega)).trans e1, (hc 2 (by omega)).trans e2⟩
  obtain ⟨⟨l3, h3⟩, z3⟩ := row_of_trod (α := Lim) 3 (by omega) (LimAt w) Tryd.underlying34 cLim t3 fun n cs y b o _ hy _ hc => hlim hy hc
  obtain ⟨⟨l4, h4⟩, z4⟩ := row_of_trod (α := Lim) 3 (by omega) (LimAt w) Tryd.underlying34 cLim t4 fun n cs y b o _ hy _ hc => hlim hy hc
  obtain ⟨⟨l5, h5⟩, _⟩ := row_of_trod (α := Glo d) 9 (by omega) (GloAt w d) Tryd.underlying35 cGlo t5 fun n cs y b o hn hy hl hc => by
    obtain ⟨xs, k, rfl, _, _, hxl, hall⟩ := DataW.trod_struct Tryd.underlying74 hy
    obtain ⟨y0, g0⟩ := field_get hxl hall 0 _ rfl
    obtain ⟨y1, g1⟩ := field_get hxl hall 1 _ rfl
    obtain ⟨y2, g2⟩ := field_get hxl hall 2 _ rfl
    obtain ⟨a0, e0, _⟩ := int_field Tryd.underlying3 cInt g0
    obtain ⟨a1, e1⟩ := bool_field Tryd.underlying4 cBool g1
    have g2 : DataW.trod enc Tryd.prog w base spare held k 26 ((cs.drop 2).take (Tryd.prog.cellsOf 26)) = some y2 := g2
    rw [cInstr] at g2
    obtain ⟨a2, i2⟩ := ins_of' (d := d) (b := b) (o := o + 2) (by omega) g2 fun j hj => by
      rw [List.getElem?_take_of_lt hj, List.getElem?_drop, Nat.add_assoc]
      exact hc (2 + j) (by omega)
    exact ⟨⟨a0, a1, a2⟩, (hc 0 (by omega)).trans e0, (hc 1 (by omega)).trans e1, i2⟩
  obtain ⟨⟨l6, h6⟩, _⟩ := row_of_trod (α := Exp) 3 (by omega) (fun b o x => ExpAt w b o x ∧ x.name.size ≤ 9223372036854775807) Tryd.underlying36 cExp t6 fun n cs y b o hn hy _ hc => by
    obtain ⟨xs, k, rfl, _, _, hxl, hall⟩ := DataW.trod_struct Tryd.underlying77 hy
    obtain ⟨y0, g0⟩ := field_get hxl hall 0 _ rfl
    obtain ⟨y1, g1⟩ := field_get hxl hall 1 _ rfl
    obtain ⟨y2, g2⟩ := field_get hxl hall 2 _ rfl
    obtain ⟨a0, e0, s0⟩ := str_field Tryd.underlying9 cStr g0
    obtain ⟨a1, e1, _⟩ := int_field Tryd.underlying3 cInt g1
    obtain ⟨a2, e2, _⟩ := int_field Tryd.underlying3 cInt g2
    exact ⟨⟨a0, a1, a2⟩, ⟨(hc 0 (by omega)).trans e0, (hc 1 (by omega)).trans e1, (hc 2 (by omega)).trans e2⟩, s0⟩
  obtain ⟨l7, h7⟩ := ints_of t7
  obtain ⟨⟨l8, h8⟩, _⟩ := row_of_trod (α := Elm d) 8 (by omega) (ElmAt w d) Tryd.underlying37 cElm t8 fun n cs y b o hn hy hl hc => by
    obtain ⟨xs, k, rfl, _, _, hxl, hall⟩ := DataW.trod_struct Tryd.underlying82 hy
    obtain ⟨y0, g0⟩ := field_get hxl hall 0 _ rfl
    obtain ⟨y1, g1⟩ := field_get hxl hall 1 _ rfl
    have g0 : DataW.trod enc Tryd.prog w base spare held k 26 ((cs.drop 0).take (Tryd.prog.cellsOf 26)) = some y0 := g0
    rw [cInstr] at g0
    obtain ⟨a0, i0⟩ := ins_of' (d := d) (b := b) (o := o) (by omega) g0 fun j hj => by
      rw [List.getElem?_take_of_lt hj, List.getElem?_drop, Nat.zero_add]
      exact hc j (by omega)
    obtain ⟨a1, e1, s1⟩ := slice_field Tryd.underlying23 cInts g1
    obtain ⟨i1, j1⟩ := ints_of s1
    exact ⟨⟨a0, i1⟩, i0, ⟨a1, (hc 7 (by omega)).trans e1, j1⟩⟩
  obtain ⟨⟨l9, h9⟩, _⟩ := row_of_trod (α := Dat d) 8 (by omega) (fun b o x => DatAt w d b o x ∧ x.bytes.size ≤ 9223372036854775807) Tryd.underlying38 cDat t9 fun n cs y b o hn hy hl hc => by
    obtain ⟨xs, k, rfl, _, _, hxl, hall⟩ := DataW.trod_struct Tryd.underlying84 hy
    obtain ⟨y0, g0⟩ := field_get hxl hall 0 _ rfl
    obtain ⟨y1, g1⟩ := field_get hxl hall 1 _ rfl
    have g0 : DataW.trod enc Tryd.prog w base spare held k 26 ((cs.drop 0).take (Tryd.prog.cellsOf 26)) = some y0 := g0
    rw [cInstr] at g0
    obtain ⟨a0, i0⟩ := ins_of' (d := d) (b := b) (o := o) (by omega) g0 fun j hj => by
      rw [List.getElem?_take_of_lt hj, List.getElem?_drop, Nat.zero_add]
      exact hc j (by omega)
    obtain ⟨a1, e1, s1⟩ := str_field Tryd.underlying9 cStr g1
    exact ⟨⟨a0, a1⟩, ⟨i0, (hc 7 (by omega)).trans e1⟩, s1⟩
  exact ⟨⟨l0, l1, l2, l3, l4, l5, l6, l7, l8, l9⟩, ⟨h0, h1.imp fun _ _ _ _ h => h.1, h2, h3, h4, h5, h6.imp fun _ _ _ _ h => h.1, h7, h8, h9.imp fun _ _ _ _ h => h.1⟩, row_mem h9, row_mem h1, row_mem h6, z3, z4⟩
end Of
end Go.Proofs.YtlpnoelolkbmmaaDoor
