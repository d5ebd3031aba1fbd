/- The program's Check, whole, of a module as it lies in memory: over what Form and Name answer. -/
import Derived.Test.YtmedpblpcfobdaaDoorW11
import Derived.Test.YtmedpblpcfobdaaDoorW13
import Derived.Test.YtmedpblpcfobdaaDoorW15
import Derived.Test.YtmedpblpcfobdaaDoorPF4
namespace Go.Proofs.YtmedpblpcfobdaaDoor
open Go.RowKit Rep
set_option linter.unusedVariables false
namespace Rep
/-- what is asked of a module's place in memory beside what it reads as -/
structure ModOk {d : Nat} (v3 v4 : Value) (m : Mod d) : Prop where
  deep : d ≤ 4611686018427387904
  datas : ∀ x ∈ m.datas, x.bytes.size ≤ 9223372036854775807
  texts : Texts m
  tables : ∀ n c, v3 = .slice none n c → c = 0
  mems : ∀ n c, v4 = .slice none n c → c = 0
theorem fewM_lens {d : Nat} {m : Mod d} (h : fewM m = true) : m.tables.length ≤ 4096 ∧ m.mems.length ≤ 4096 := by
  unfold fewM at h
  rw [Bool.and_eq_true] at h
  have h1 := List.all_eq_true.1 h.1
  have a := h1 (len m.tables) (by simp)
  have b := h1 (len m.mems) (by simp)
  have a := of_decide_eq_true (p := ((m.tables.length : Int) ≤ 4096)) a
  have b := of_decide_eq_true (p := ((m.mems.length : Int) ≤ 4096)) b
  omega
end Rep
theorem pCheckC {I : World → Prop} (C : WastC I) (d : Nat) (v0 v1 v2 v3 v4 v5 v6 v7 v8 v9 : Value) (m : Mod d) (w : World) (hI : I w) (hM : ModAt w d v0 v1 v2 v3 v4 v5 v6 v7 v8 v9 m) (hO : ModOk v3 v4 m) :
    Calls Tryd.prog 15 #[.agg #[v0, v1, v2, v3, v4, v5, v6, v7, v8, v9]] w fun e w' => e = .returned (.int .i64 (chk m)) ∧ Below w.heap.size w w' := by
  refine pCheck C.toFormC d hO.deep v0 v1 v2 v3 v4 v5 v6 v7 v8 v9 m w hI hM hO.datas fun hf w' hb => ?_
  have hl := fewM_lens hf
  have hM' := hM.on hb
  obtain ⟨o3, c3, e3⟩ := Row.len hM'.tables
  obtain ⟨o4, c4, e4⟩ := Row.len hM'.mems
  refine pneedShapes C d v0 v1 v2 v3 v4 v5 v6 v7 v8 v9 m w' (C.keep hb hI) hM' hO.texts fun u b hu k0 k1 => ?_
  have hM2 := hM'.on hu
  have r3 := hM2.tables
  have r4 := hM2.mems
  rw [e3] at r3 k0
  rw [e4] at r4 k1
  refine pConcat m.tables m.mems o3 o4 c3 c4 u b r3 r4 (fun h => ?_) (fun h => ?_) k0 k1 hl.1 hl.2
  · subst h; exact hO.tables _ _ e3
  · subst h; exact hO.mems _ _ e4
theorem wastC {I : World → Prop} (C : ReckC I) (hU : ∀ w, I w → UtfI w) : WastC I :=
  { toFormC := formC C, name := fun s w h hs => pName s w hs (hU w h) }
theorem utfI_on {w w' : World} (hb : Below w.heap.size w w') (h : UtfI w) : UtfI w' := Utf8Tabs_below h hb
end Go.Proofs.YtmedpblpcfobdaaDoor
