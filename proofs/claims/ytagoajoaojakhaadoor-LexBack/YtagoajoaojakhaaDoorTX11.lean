/- The tables, as the rows of LexTexts and LexBack list them; a world in which they lie so. -/
import Derived.Test.YtagoajoaojakhaaDoorTX10
import Derived.Test.YtagoajoaojakhaaDoorK1
import Derived.Test.YtagoajoaojakhaaDoorA15
import Derived.Lib.LaidIn
import Derived.Lib.LaidU8T
import Derived.OpenShut
namespace Go.Proofs.YtagoajoaojakhaaDoor
open Go.RowKit Lx Rep
open Go.WideShapes Go.ChangeShapes Go.ChangeAt
set_option linter.unusedVariables false
theorem gTab5 : Tryd.prog.globalNamed "internal/strconv.uint64pow10" = some 5 := by kernel_rfl
theorem gTabType5 : (Tryd.prog.globals[5]?).map (·.type) = some 91 := by kernel_rfl
theorem powIs : (Rows.laid_internal_strconv_uint64pow10 : DataW Unit) = Lib.tabData .u64 Lib.pow10Tab := by kernel_rfl
/-- the list of the rows -/
abbrev laid7 : List (String × DataW Unit) := [("math/bits.deBruijn32tab", Rows.laid_math_bits_deBruijn32tab), ("math/bits.deBruijn64tab", Rows.laid_math_bits_deBruijn64tab), ("internal/strconv.uint64pow10", Rows.laid_internal_strconv_uint64pow10), ("unicode/utf8.acceptRanges", Rows.laid_unicode_utf8_acceptRanges), ("athanor/lex.keyWords", Rows.laid_athanor_lex_keyWords), ("athanor/lex.signs", Rows.laid_athanor_lex_signs), ("unicode/utf8.first", Rows.laid_unicode_utf8_first)]
theorem tabs7 {W : World} (hL : laidMetH Tryd.prog laid7 W) : WL W ∧ TP W := by
  have hM : laidMet Tryd.prog laid7 W := hL
  obtain h5 := Lib.laidMet.reads hM (.tail _ (.tail _ (.head _)))
  obtain h0 := Lib.laidMet.reads hM (.tail _ (.tail _ (.tail _ (.tail _ (.head _)))))
  obtain h1 := Lib.laidMet.reads hM (.tail _ (.tail _ (.tail _ (.tail _ (.tail _ (.head _))))))
  rw [powIs] at h5
  rw [keysIs] at h0
  rw [signsIs] at h1
  obtain ⟨g5, t5, cs5, f5, p5, hg5, ht5, hv5, hd5⟩ := h5
  obtain ⟨g0, t0, cs0, f0, p0, hg0, ht0, hv0, hd0⟩ := h0
  obtain ⟨g1, t1, cs1, f1, p1, hg1, ht1, hv1, hd1⟩ := h1
  obtain rfl := Option.some.inj (gTab5.symm.trans hg5)
  obtain rfl := Option.some.inj (gTabType5.symm.trans ht5)
  obtain rfl := Option.some.inj (gTab0.symm.trans hg0)
  obtain rfl := Option.some.inj (gTabType0.symm.trans ht0)
  obtain rfl := Option.some.inj (gTab1.symm.trans hg1)
  obtain rfl := Option.some.inj (gTabType1.symm.trans ht1)
  refine ⟨⟨range_of (fun k => World.var?_cell gTab0 hv0 k) (strs_of_tab Tryd.underlying60 Tryd.underlying9 cellsStr cellsTab0 hd0), range_of (fun k => World.var?_cell gTab1 hv1 k) (strs_of_tab Tryd.underlying61 Tryd.underlying9 cellsStr cellsTab1 hd1)⟩, ?_⟩
  show W.var? Tryd.prog "internal/strconv.uint64pow10" = _
  rw [hv5, ← Lib.cells_of_tab Tryd.underlying91 Tryd.underlying82 (by kernel_rfl) (by kernel_rfl) hd5]
def litV : DataW Unit → Value
  | .lit (.int k n) => .int k n
  | .lit (.string l) => .string ⟨l.toArray⟩
  | _ => undef
def flat1 : DataW Unit → List Value
  | .agg l => l.map litV
  | _ => []
def flat2 : DataW Unit → List Value
  | .agg l => l.flatMap flat1
  | _ => []
noncomputable def laidWorld7 (os : Os) : World :=
  let w0 := World.holding Tryd.prog os ⟨#[], #[], []⟩
  let put (h : Array Obj) (g : Nat) (cs : Array Value) : Array Obj := h.modify g fun
    | .cells _ t frozen => .cells cs t frozen
    | o => o
  let h1 := put w0.heap 0 (flat1 Rows.laid_athanor_lex_keyWords).toArray
  let h2 := put h1 1 (flat1 Rows.laid_athanor_lex_signs).toArray
  let h3 := put h2 3 (flat1 Rows.laid_unicode_utf8_first).toArray
  let h4 := put h3 4 (flat2 Rows.laid_unicode_utf8_acceptRanges).toArray
  let h5 := put h4 5 (flat1 Rows.laid_internal_strconv_uint64pow10).toArray
  let h6 := put h5 6 (flat1 Rows.laid_math_bits_deBruijn32tab).toArray
  let h7 := put h6 7 (flat1 Rows.laid_math_bits_deBruijn64tab).toArray
  { w0 with heap := h7 }
theorem laid_met7 (os : Os) (args : Array Value) : laidMet Tryd.prog laid7 ((laidWorld7 os).forCall (fun _ _ => 0) ⟨#[], args, []⟩).memory :=
  (LaidIn.of_run (l := laid7) [6, 7, 5, 4, 0, 1, 3] 8 (by kernel_rfl) (by kernel_rfl) (by kernel_rfl) (by kernel_rfl)).met
/-- tokens that are handed in, as they lie -/
theorem tks_of {H : Type} {enc : TypeId × Value → H} {w : World} {base : Nat} {spare : Nat → Bool} {held : Bool} {fuel : Nat} {v : Value} {x : DataW H × List MemPlace} (h : DataW.trod enc Tryd.prog w base spare held fuel 22 [v] = some x) : ∃ l, TkR w v l ∧ TkN l := by
  obtain ⟨⟨l, hl⟩, _⟩ := row_of_trod (α := Tk) 4 (by omega) (fun b o t => TC w b o t ∧ -9223372036854775808 ≤ t.n ∧ t.n ≤ 9223372036854775807) Tryd.underlying22 (by kernel_rfl) h fun n cs y b o _ hy hl hc => by
    obtain ⟨xs, m, rfl, _, _, hxl, hall⟩ := DataW.trod_struct Tryd.underlying25 hy
    obtain ⟨y0, g0⟩ := field_get hxl hall 0 _ rfl
    obtain ⟨y1, g1⟩ := field_get hxl hall 1 _ rfl
    obtain ⟨y2, g2⟩ := field_get hxl hall 2 _ rfl
    obtain ⟨y3, g3⟩ := field_get hxl hall 3 _ rfl
    obtain ⟨z0, e0, _⟩ := int_field Tryd.underlying3 cInt g0
    obtain ⟨z1, e1, _⟩ := str_field Tryd.underlying9 cStr g1
    obtain ⟨z2, e2, b2⟩ := int_field Tryd.underlying3 cInt g2
    obtain ⟨z3, e3, _⟩ := int_field Tryd.underlying3 cInt g3
    exact ⟨⟨z0, z1, z2, z3⟩, ⟨(hc 0 (by omega)).trans e0, (hc 1 (by omega)).trans e1, (hc 2 (by omega)).trans e2, (hc 3 (by omega)).trans e3⟩, by have := bounds_i64 b2; simp only; omega⟩
  refine ⟨l, Rep.Row.imp hl fun _ _ _ _ hx => hx.1, fun t ht => ?_⟩
  obtain ⟨i, hi⟩ := List.getElem?_of_mem ht
  obtain ⟨b, off, c, _, hc⟩ := Rep.Row.some hl (List.length_pos_of_mem ht)
  exact (hc i t hi).2
end Go.Proofs.YtagoajoaojakhaaDoor
