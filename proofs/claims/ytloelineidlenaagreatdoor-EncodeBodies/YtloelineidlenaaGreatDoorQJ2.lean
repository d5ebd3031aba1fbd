/- QJ2: several texts in one. -/
import Derived.Test.YtloelineidlenaaGreatDoorQJ1
import Derived.Ground.NamesProg
import Derived.WalkMore
import Derived.Shelf.Lay
import Derived.Shelf.Unicode.ValidAny
import Derived.Shelf.Spec.SlicesGrow
import Derived.Laws.AppendOwn
import Derived.Laws.AppendOwnNone
import Derived.OwnWalk
import Derived.Test.YtloelineidlenaaGreatDoorW7
import Derived.Lib.SlBytesConst
import Derived.Laws.EntriesVeiled
import Derived.Test.YtloelineidlenaaGreatDoorCount
namespace Go.Proofs.YtloelineidlenaaGreatDoor
open Go.RowKit Rep
set_option linter.unusedVariables false

structure WastC (I : World → Prop) : Prop extends FormC I where
  name : ∀ (s : ByteArray) (w : World), I w → s.size ≤ 9223372036854775807 → Calls Tryz.prog 113 #[.string s] w fun e w' => e = .returned (.bool (nm s)) ∧ Below w.heap.size w w'

namespace Rep
def Strs (w : World) (v : Value) (l : List ByteArray) : Prop := Row 1 (fun b o (z : ByteArray) => w.cell? ⟨b, o, none⟩ = .some (.string z)) v l
theorem Strs.on {w w' : World} (hb : Below w.heap.size w w') {v : Value} {l : List ByteArray} (h : Strs w v l) : Strs w' v l := Row.imp h fun _ _ _ _ h => cell_on hb h
theorem strs_new (w : World) (t : TypeId) (b cap : Nat) (zs : List ByteArray) (hb : b = w.heap.size) (hl : zs.length ≤ 9223372036854775807) : Strs (w.alloc (.cells (zs.map fun z => Value.string z).toArray t)) (.slice (some ⟨b, 0, none⟩) zs.length cap) zs := by
  refine ⟨hl, .inr ⟨b, 0, cap, rfl, fun i x hi => ?_⟩⟩
  show (w.alloc (.cells (zs.map fun z => Value.string z).toArray t)).cell? ⟨b, 0 + i * 1, none⟩ = _
  rw [World.cell?_alloc_at _ t _ _ hb]
  simp [hi]
theorem Row.lims {w w' : World} (hb : Below w.heap.size w w') {v : Value} {l : List Lim} (h : Row 3 (LimAt w) v l) : Row 3 (LimAt w') v l := h.imp fun _ _ _ _ => LimAt.on hb
theorem two_sz {a b : ByteArray} (h : a.size ≤ 9223372036854775807 ∧ b.size ≤ 9223372036854775807) : ∀ s ∈ [a, b], s.size ≤ 9223372036854775807 := by
  intro s hs; simp at hs; rcases hs with rfl | rfl; exact h.1; exact h.2
theorem one_sz {a : ByteArray} (h : a.size ≤ 9223372036854775807) : ∀ s ∈ [a], s.size ≤ 9223372036854775807 := by
  intro s hs; simp at hs; subst hs; exact h
theorem below_eq {u v : World} (h : v = u) : Below u.heap.size u v := by rw [h]; exact Below.refl _ _
theorem below_al {u v : World} {o : Obj} (h : v = u.alloc o) : Below u.heap.size u v := by rw [h]; exact (Below.refl _ u).alloc (Nat.le_refl _) o
structure Texts {d : Nat} (m : Mod d) : Prop where
  imports : ∀ x ∈ m.imports, x.mod.size ≤ 9223372036854775807 ∧ x.name.size ≤ 9223372036854775807
  exports : ∀ x ∈ m.exports, x.name.size ≤ 9223372036854775807
end Rep

set_option maxHeartbeats 1000000 in
theorem pneedNames {I : World → Prop} (C : WastC I) (v : Value) (l : List ByteArray) (w : World) (hI : I w) (hAt : Strs w v l) (hsz : ∀ s ∈ l, s.size ≤ 9223372036854775807) :
    Calls Tryz.prog 79 #[v] w fun e w' => Needs (l.all nm) 30 e ∧ Below w.heap.size w w' := by
  have hlen := hAt.1
  obtain ⟨o, cap, hv⟩ := Row.len hAt
  have HA := hideM hAt
  subst hv
  obtain ⟨R, hR⟩ : ∃ R, R = l.all nm := ⟨_, rfl⟩
  rw [← hR]
  have HR : Hid (R = (l.drop 0).all nm) := hR
  have HSZ := hideM hsz
  have HII := hideM hI
  clear hAt hR hsz hI
  generalize hn : l.length = n at *
  go_enter Tryz.func79, Tryz.ntmps79
  go_wp2_with fail
  go_loopw [6] (fun i wr => ∃ j : Nat, j ≤ n ∧ i = .int .i64 j ∧ Hid (R = (l.drop j).all nm) ∧ Hid (Below w.heap.size w wr)) (fun i _ => n - (RowKit.intOf i).toNat)
  case atStart => exact ⟨0, by omega, rfl, HR, Below.refl _ _⟩
  case round =>
    obtain ⟨j, hj, rfl, HK, HBW⟩ := hrel
    by_cases hgo : j < n
    · obtain ⟨b, off, cap2, hv2, hx⟩ := Row.some (HA.out.on HBW.out) (by omega)
      injection hv2 with ho h2 h3
      subst ho
      obtain ⟨x, hxk⟩ : ∃ x, l[j]? = some x := ⟨_, List.getElem?_eq_getElem (by omega)⟩
      have hc := hx j x hxk
      rw [Nat.mul_one] at hc
      have HN := hideM (HK.out.trans (all_on hxk rfl))
      have HSX := hideM (HSZ.out x (List.mem_of_getElem? hxk))
      clear hx hxk HK h2 h3
      go_wp2_with fail
      refine (C.name x _ (C.keep HBW.out HII.out) HSX.out).mono ?_
      rintro e u ⟨rfl, hb⟩
      have HB2 := hideM (below_go HBW.out hb)
      clear hb hc HBW
      generalize nm x = r at *
      go_wp2_with fail
      refine (pNeed r _ _).mono ?_
      rintro e u2 ⟨hN, rfl⟩
      rcases hN with ⟨rfl, rfl⟩ | ⟨rfl, rfl⟩
      · have HN' : Hid (R = (l.drop (j + 1)).all nm) := hideM (by rw [HN.out, Bool.true_and])
        clear HN
        go_wp2
        go_roundw
        case rel => exact ⟨j + 1, by omega, by go_num, HN', HB2⟩
        case measure => simp [RowKit.intOf]; omega
      · have HF : R = false := by rw [HN.out, Bool.false_and]
        go_wp2
        exact ⟨rfl, .inr ⟨HF, rfl⟩, HB2.out⟩
    · have HE : R = true := all_end (by omega) HK.out
      have HEE := hideM HE
      clear HE HK
      go_wp2
      go_end0
      exact ⟨.inl ⟨HEE.out, rfl⟩, HBW.out⟩

set_option maxHeartbeats 8000000 in
theorem pneedShapes {I : World → Prop} (C : WastC I) (d : Nat) (v0 v1 v2 v3 v4 v5 v6 v7 v8 v9 : Value) (m : Mod d) (w : World) (hI : I w) (hM : ModAt w d v0 v1 v2 v3 v4 v5 v6 v7 v8 v9 m) (hX : Texts m)
    (hCat : ∀ (u : World) (b : Nat), Below w.heap.size w u → u.cell? ⟨b, 0, none⟩ = some v3 → u.cell? ⟨b, 1, none⟩ = some v4 →
      Calls Tryz.prog 81 #[.slice (some ⟨b, 0, none⟩) 2 2] u fun e u' => (∃ o c, e = .returned (.slice o (m.tables ++ m.mems).length c) ∧ Row 3 (LimAt u') (.slice o (m.tables ++ m.mems).length c) (m.tables ++ m.mems)) ∧ Below u.heap.size u u') :
    Calls Tryz.prog 38 #[.agg #[v0, v1, v2, v3, v4, v5, v6, v7, v8, v9]] w fun e w' => Needs (shM m) 30 e ∧ Below w.heap.size w w' := by
  have l0 := hM.types.1
  have l1 := hM.imports.1
  have l2 := hM.funcs.1
  have l5 := hM.globals.1
  have l6 := hM.exports.1
  have l8 := hM.elems.1
  have l9 := hM.datas.1
  have HM := hideM hM
  have HXX := hideM hX
  have HII := hideM hI
  have HCat := hideM hCat
  obtain ⟨o0, c0, rfl⟩ := Row.len hM.types
  obtain ⟨o1, c1, rfl⟩ := Row.len hM.imports
  obtain ⟨o2, c2, rfl⟩ := Row.len hM.funcs
  obtain ⟨o3, c3, rfl⟩ := Row.len hM.tables
  obtain ⟨o4, c4, rfl⟩ := Row.len hM.mems
  obtain ⟨o5, c5, rfl⟩ := Row.len hM.globals
  obtain ⟨o6, c6, rfl⟩ := Row.len hM.exports
  obtain ⟨o7, c7, rfl⟩ := Row.len hM.start
  obtain ⟨o8, c8, rfl⟩ := Row.len hM.elems
  obtain ⟨o9, c9, rfl⟩ := Row.len hM.datas
  have HB0 := hideM (Box.start w 32 (.slice o0 m.types.length c0) (.slice o1 m.imports.length c1) (.slice o2 m.funcs.length c2) (.slice o3 m.tables.length c3) (.slice o4 m.mems.length c4) (.slice o5 m.globals.length c5) (.slice o6 m.exports.length c6) (.slice o7 m.start.length c7) (.slice o8 m.elems.length c8) (.slice o9 m.datas.length c9))
  obtain ⟨R, hR⟩ : ∃ R, R = shM m := ⟨_, rfl⟩
  rw [← hR]
  unfold shM at hR
  have HR := hideM hR
  clear hM hR hX hI hCat
  generalize hn0 : m.types.length = n0 at *
  generalize hn1 : m.imports.length = n1 at *
  generalize hn2 : m.funcs.length = n2 at *
  generalize hn3 : m.tables.length = n3 at *
  generalize hn4 : m.mems.length = n4 at *
  generalize hn5 : m.globals.length = n5 at *
  generalize hn6 : m.exports.length = n6 at *
  generalize hn7 : m.start.length = n7 at *
  generalize hn8 : m.elems.length = n8 at *
  generalize hn9 : m.datas.length = n9 at *
  go_enter Tryz.func38, Tryz.ntmps38
  go_upto_region 1 with fail
  obtain ⟨wb, hwb⟩ : ∃ wb, wb = w.alloc (.cells #[.slice o0 n0 c0, .slice o1 n1 c1, .slice o2 n2 c2, .slice o3 n3 c3, .slice o4 n4 c4, .slice o5 n5 c5, .slice o6 n6 c6, .slice o7 n7 c7, .slice o8 n8 c8, .slice o9 n9 c9] 32) := ⟨_, rfl⟩
  rw [← hwb]
  have HB1 : Hid (Box w (.slice o0 n0 c0) (.slice o1 n1 c1) (.slice o2 n2 c2) (.slice o3 n3 c3) (.slice o4 n4 c4) (.slice o5 n5 c5) (.slice o6 n6 c6) (.slice o7 n7 c7) (.slice o8 n8 c8) (.slice o9 n9 c9) wb) := by rw [hwb]; exact HB0
  clear hwb HB0
  obtain ⟨q0, q1, q2, q3, q4, q5, q6, q7, q8, q9, qb⟩ := HB1.out
  clear qb
  go_wp2_with fail
  go_loopw [21] (fun i wr => ∃ j : Nat, j ≤ n0 ∧ i = .int .i64 j ∧ Hid (R = ((m.types.drop j).all shT && (m.imports.all shI && (m.funcs.all shF && ((m.tables ++ m.mems).all shL && (m.globals.all shG && (m.exports.all shE && (m.start.all idx && (m.elems.all (fun e => cstOk e.offset && e.funcs.all idx) && m.datas.all fun x => cstOk x.offset))))))))) ∧ Hid (Box w (.slice o0 n0 c0) (.slice o1 n1 c1) (.slice o2 n2 c2) (.slice o3 n3 c3) (.slice o4 n4 c4) (.slice o5 n5 c5) (.slice o6 n6 c6) (.slice o7 n7 c7) (.slice o8 n8 c8) (.slice o9 n9 c9) wr)) (fun i _ => n0 - (RowKit.intOf i).toNat)
  case atStart => exact ⟨0, by omega, rfl, HR, HB1⟩
  case round =>
    obtain ⟨j, hj, rfl, HK, HBa⟩ := hrel
    clear HR HB1
    clear q0 q1 q2 q3 q4 q5 q6 q7 q8 q9
    by_cases hgo : j < n0
    · have hmr := HM.out.on HBa.out.bel
      obtain ⟨b, off, cap3, hv2, hx⟩ := Row.some hmr.types (by omega)
      injection hv2 with ho h2 h3
      subst ho
      obtain ⟨x, hxk⟩ : ∃ x, m.types[j]? = some x := ⟨_, List.getElem?_eq_getElem (by omega)⟩
      have hx' := hx j x hxk
      have HN := hideM hxk
      obtain ⟨pv, k0, a0⟩ := hx'.params
      obtain ⟨rv, k1, a1⟩ := hx'.results
      obtain ⟨po, pc, rfl⟩ := Row.len a0
      obtain ⟨ro, rc, rfl⟩ := Row.len a1
      have A0 := hideM a0
      have A1 := hideM a1
      have HP : Hid (shT x = (x.params.all typ && x.results.all typ)) := rfl
      clear a0 a1
      clear hmr hx h2 h3 hxk hx'
      go_upto_region 4 with fail
      obtain ⟨wa, hwa⟩ : ∃ wa, wa = wr.alloc (Obj.cells #[.slice po x.params.length pc, .slice ro x.results.length rc] 59) := ⟨_, rfl⟩
      rw [← hwa]
      have z0 : wa.cell? ⟨wr.heap.size, 0, none⟩ = some (.slice po x.params.length pc) := by rw [hwa]; exact new_cell _ _ _ _ _ rfl
      have z1 : wa.cell? ⟨wr.heap.size, 1, none⟩ = some (.slice ro x.results.length rc) := by rw [hwa]; exact new_cell _ _ _ _ _ rfl
      have hba : Below wr.heap.size wr wa := below_al hwa
      have HBA := hideM (HBa.out.on hba)
      have HTA := hideM hba
      clear hwa hba k0 k1
      go_wp2_with fail
      refine (pneedTypes _ x.params _ (A0.out.on HTA.out)).mono ?_
      rintro e x0 ⟨hN, hu⟩
      have hbb : Below wa.heap.size wa x0 := below_eq hu
      have HB_0 := hideM (HBA.out.on hbb)
      have HT_0 := hideM (below_go HTA.out hbb)
      have y0 := cell_on hbb z0
      have y1 := cell_on hbb z1
      clear hu z0 z1
      have z0 := y0
      have z1 := y1
      clear hbb y0 y1
      rcases hN with ⟨h, rfl⟩ | ⟨h, rfl⟩
      rotate_left
      · have HF : R = false := by rw [HK.out, all_on HN.out rfl, HP.out, h]; first | done | simp
        go_wp2
        exact ⟨rfl, .inr ⟨HF, rfl⟩, HB_0.out.bel⟩
      have H_0 := hideM h
      clear h
      go_wp2_with fail
      refine (pneedTypes _ x.results _ (A1.out.on HT_0.out)).mono ?_
      rintro e x1 ⟨hN, hu⟩
      have hbb : Below x0.heap.size x0 x1 := below_eq hu
      have HB_1 := hideM (HB_0.out.on hbb)
      have HT_1 := hideM (below_go HT_0.out hbb)
      have y0 := cell_on hbb z0
      have y1 := cell_on hbb z1
      clear hu z0 z1
      have z0 := y0
      have z1 := y1
      clear hbb y0 y1
      rcases hN with ⟨h, rfl⟩ | ⟨h, rfl⟩
      rotate_left
      · have HF : R = false := by rw [HK.out, all_on HN.out rfl, HP.out, H_0.out, h]; first | done | simp
        go_wp2
        exact ⟨rfl, .inr ⟨HF, rfl⟩, HB_1.out.bel⟩
      have H_1 := hideM h
      clear h
      have HF : Hid (R = ((m.types.drop (j + 1)).all shT && (m.imports.all shI && (m.funcs.all shF && ((m.tables ++ m.mems).all shL && (m.globals.all shG && (m.exports.all shE && (m.start.all idx && (m.elems.all (fun e => cstOk e.offset && e.funcs.all idx) && m.datas.all fun x => cstOk x.offset))))))))) := hideM (by rw [HK.out, all_on HN.out rfl, HP.out, H_0.out, H_1.out]; first | done | simp)
      clear HK HN HP H_0 H_1
      go_wp2
      go_roundw
      case rel => exact ⟨j + 1, by omega, by go_num, HF, HB_1⟩
      case measure => simp [RowKit.intOf]; omega
    · have HEa : Hid (R = (m.imports.all shI && (m.funcs.all shF && ((m.tables ++ m.mems).all shL && (m.globals.all shG && (m.exports.all shE && (m.start.all idx && (m.elems.all (fun e => cstOk e.offset && e.funcs.all idx) && m.datas.all fun x => cstOk x.offset)))))))) := hideM (by rw [HK.out, all_end (by omega) (rfl : _ = (m.types.drop j).all shT)]; first | done | rfl | simp)
      clear HK
      generalize wr = woa at *
      obtain ⟨q0, q1, q2, q3, q4, q5, q6, q7, q8, q9, qb⟩ := HBa.out
      clear qb
      go_wp2_with fail
      go_loopw [35] (fun i wr => ∃ j : Nat, j ≤ n1 ∧ i = .int .i64 j ∧ Hid (R = ((m.imports.drop j).all shI && (m.funcs.all shF && ((m.tables ++ m.mems).all shL && (m.globals.all shG && (m.exports.all shE && (m.start.all idx && (m.elems.all (fun e => cstOk e.offset && e.funcs.all idx) && m.datas.all fun x => cstOk x.offset)))))))) ∧ Hid (Box w (.slice o0 n0 c0) (.slice o1 n1 c1) (.slice o2 n2 c2) (.slice o3 n3 c3) (.slice o4 n4 c4) (.slice o5 n5 c5) (.slice o6 n6 c6) (.slice o7 n7 c7) (.slice o8 n8 c8) (.slice o9 n9 c9) wr)) (fun i _ => n1 - (RowKit.intOf i).toNat)
      case atStart => exact ⟨0, by omega, rfl, HEa, HBa⟩
      case round =>
        obtain ⟨j, hj, rfl, HK, HBb⟩ := hrel
        clear HEa HBa
        clear q0 q1 q2 q3 q4 q5 q6 q7 q8 q9
        by_cases hgo : j < n1
        · have hmr := HM.out.on HBb.out.bel
          obtain ⟨b, off, cap3, hv2, hx⟩ := Row.some hmr.imports (by omega)
          injection hv2 with ho h2 h3
          subst ho
          obtain ⟨x, hxk⟩ : ∃ x, m.imports[j]? = some x := ⟨_, List.getElem?_eq_getElem (by omega)⟩
          have hx' := hx j x hxk
          have HN := hideM hxk
          have k0 := hx'.mod
          have k1 := hx'.name
          have k2 := hx'.type
          have HSX := hideM (HXX.out.imports x (List.mem_of_getElem? hxk))
          have HP : Hid (shI x = ([x.mod, x.name].all nm && [x.type].all idx)) := rfl
          clear hmr hx h2 h3 hxk hx'
          go_upto_region 10 with fail
          obtain ⟨wa, hwa⟩ : ∃ wa, wa = wr.alloc (Obj.cells #[.string x.mod, .string x.name, .int .i64 x.type] 83) := ⟨_, rfl⟩
          rw [← hwa]
          have z0 : wa.cell? ⟨wr.heap.size, 0, none⟩ = some (.string x.mod) := by rw [hwa]; exact new_cell _ _ _ _ _ rfl
          have z1 : wa.cell? ⟨wr.heap.size, 1, none⟩ = some (.string x.name) := by rw [hwa]; exact new_cell _ _ _ _ _ rfl
          have z2 : wa.cell? ⟨wr.heap.size, 2, none⟩ = some (.int .i64 x.type) := by rw [hwa]; exact new_cell _ _ _ _ _ rfl
          have hba : Below wr.heap.size wr wa := below_al hwa
          have HBA := hideM (HBb.out.on hba)
          have HTA := hideM hba
          clear hwa hba k0 k1 k2
          go_wp2_with fail
          refine (pneedNames C _ [x.mod, x.name] _ (C.keep (below_new HBA.out.bel _) HII.out) (strs_new _ _ _ _ _ (by simp) (by simp)) (two_sz HSX.out)).mono ?_
          rintro e x0 ⟨hN, hu⟩
          have hbb : Below wa.heap.size wa x0 := below_go ((Below.refl _ _).alloc (Nat.le_refl _) _) hu
          have HB_0 := hideM (HBA.out.on hbb)
          have HT_0 := hideM (below_go HTA.out hbb)
          have y0 := cell_on hbb z0
          have y1 := cell_on hbb z1
          have y2 := cell_on hbb z2
          clear hu z0 z1 z2
          have z0 := y0
          have z1 := y1
          have z2 := y2
          clear hbb y0 y1 y2
          rcases hN with ⟨h, rfl⟩ | ⟨h, rfl⟩
          rotate_left
          · have HF : R = false := by rw [HK.out, all_on HN.out rfl, HP.out, h]; first | done | simp
            go_wp2
            exact ⟨rfl, .inr ⟨HF, rfl⟩, HB_0.out.bel⟩
          have H_0 := hideM h
          clear h
          go_wp2_with fail
          refine (pneedIndices _ [x.type] _ (ints_new _ _ _ _ _ (by simp) (by simp))).mono ?_
          rintro e x1 ⟨hN, hu⟩
          have hbb : Below x0.heap.size x0 x1 := below_al hu
          have HB_1 := hideM (HB_0.out.on hbb)
          have HT_1 := hideM (below_go HT_0.out hbb)
          have y0 := cell_on hbb z0
          have y1 := cell_on hbb z1
          have y2 := cell_on hbb z2
          clear hu z0 z1 z2
          have z0 := y0
          have z1 := y1
          have z2 := y2
          clear hbb y0 y1 y2
          rcases hN with ⟨h, rfl⟩ | ⟨h, rfl⟩
          rotate_left
          · have HF : R = false := by rw [HK.out, all_on HN.out rfl, HP.out, H_0.out, h]; first | done | simp
            go_wp2
            exact ⟨rfl, .inr ⟨HF, rfl⟩, HB_1.out.bel⟩
          have H_1 := hideM h
          clear h
          have HF : Hid (R = ((m.imports.drop (j + 1)).all shI && (m.funcs.all shF && ((m.tables ++ m.mems).all shL && (m.globals.all shG && (m.exports.all shE && (m.start.all idx && (m.elems.all (fun e => cstOk e.offset && e.funcs.all idx) && m.datas.all fun x => cstOk x.offset)))))))) := hideM (by rw [HK.out, all_on HN.out rfl, HP.out, H_0.out, H_1.out]; first | done | simp)
          clear HK HN HP H_0 H_1
          go_wp2
          go_roundw
          case rel => exact ⟨j + 1, by omega, by go_num, HF, HB_1⟩
          case measure => simp [RowKit.intOf]; omega
        · have HEb : Hid (R = (m.funcs.all shF && ((m.tables ++ m.mems).all shL && (m.globals.all shG && (m.exports.all shE && (m.start.all idx && (m.elems.all (fun e => cstOk e.offset && e.funcs.all idx) && m.datas.all fun x => cstOk x.offset))))))) := hideM (by rw [HK.out, all_end (by omega) (rfl : _ = (m.imports.drop j).all shI)]; first | done | rfl | simp)
          clear HK
          generalize wr = wob at *
          obtain ⟨q0, q1, q2, q3, q4, q5, q6, q7, q8, q9, qb⟩ := HBb.out
          clear qb
          go_wp2_with fail
          go_loopw [53] (fun i wr => ∃ j : Nat, j ≤ n2 ∧ i = .int .i64 j ∧ Hid (R = ((m.funcs.drop j).all shF && ((m.tables ++ m.mems).all shL && (m.globals.all shG && (m.exports.all shE && (m.start.all idx && (m.elems.all (fun e => cstOk e.offset && e.funcs.all idx) && m.datas.all fun x => cstOk x.offset))))))) ∧ Hid (Box w (.slice o0 n0 c0) (.slice o1 n1 c1) (.slice o2 n2 c2) (.slice o3 n3 c3) (.slice o4 n4 c4) (.slice o5 n5 c5) (.slice o6 n6 c6) (.slice o7 n7 c7) (.slice o8 n8 c8) (.slice o9 n9 c9) wr)) (fun i _ => n2 - (RowKit.intOf i).toNat)
          case atStart => exact ⟨0, by omega, rfl, HEb, HBb⟩
          case round =>
            obtain ⟨j, hj, rfl, HK, HBc⟩ := hrel
            clear HEb HBb
            clear q0 q1 q2 q3 q4 q5 q6 q7 q8 q9
            by_cases hgo : j < n2
            · have hmr := HM.out.on HBc.out.bel
              obtain ⟨b, off, cap3, hv2, hx⟩ := Row.some hmr.funcs (by omega)
              injection hv2 with ho h2 h3
              subst ho
              obtain ⟨x, hxk⟩ : ∃ x, m.funcs[j]? = some x := ⟨_, List.getElem?_eq_getElem (by omega)⟩
              have hx' := hx j x hxk
              have HN := hideM hxk
              have k0 := hx'.type
              obtain ⟨pv, k1, a0⟩ := hx'.locals
              obtain ⟨rv, k2, a1⟩ := hx'.body
              obtain ⟨po, pc, rfl⟩ := Row.len a0
              obtain ⟨ro, rc, rfl⟩ := At.len d rv x.body a1
              have A0 := hideM a0
              have HP : Hid (shF x = ([x.type].all idx && x.locals.all typ)) := rfl
              generalize size d x.body = nr at *
              clear a0 a1
              clear hmr hx h2 h3 hxk hx'
              go_upto_region 16 with fail
              obtain ⟨wa, hwa⟩ : ∃ wa, wa = wr.alloc (Obj.cells #[.int .i64 x.type, .slice po x.locals.length pc, .slice ro nr rc] 44) := ⟨_, rfl⟩
              rw [← hwa]
              have z0 : wa.cell? ⟨wr.heap.size, 0, none⟩ = some (.int .i64 x.type) := by rw [hwa]; exact new_cell _ _ _ _ _ rfl
              have z1 : wa.cell? ⟨wr.heap.size, 1, none⟩ = some (.slice po x.locals.length pc) := by rw [hwa]; exact new_cell _ _ _ _ _ rfl
              have z2 : wa.cell? ⟨wr.heap.size, 2, none⟩ = some (.slice ro nr rc) := by rw [hwa]; exact new_cell _ _ _ _ _ rfl
              have hba : Below wr.heap.size wr wa := below_al hwa
              have HBA := hideM (HBc.out.on hba)
              have HTA := hideM hba
              clear hwa hba k0 k1 k2
              go_wp2_with fail
              refine (pneedIndices _ [x.type] _ (ints_new _ _ _ _ _ (by simp) (by simp))).mono ?_
              rintro e x0 ⟨hN, hu⟩
              have hbb : Below wa.heap.size wa x0 := below_al hu
              have HB_0 := hideM (HBA.out.on hbb)
              have HT_0 := hideM (below_go HTA.out hbb)
              have y0 := cell_on hbb z0
              have y1 := cell_on hbb z1
              have y2 := cell_on hbb z2
              clear hu z0 z1 z2
              have z0 := y0
              have z1 := y1
              have z2 := y2
              clear hbb y0 y1 y2
              rcases hN with ⟨h, rfl⟩ | ⟨h, rfl⟩
              rotate_left
              · have HF : R = false := by rw [HK.out, all_on HN.out rfl, HP.out, h]; first | done | simp
                go_wp2
                exact ⟨rfl, .inr ⟨HF, rfl⟩, HB_0.out.bel⟩
              have H_0 := hideM h
              clear h
              go_wp2_with fail
              refine (pneedTypes _ x.locals _ (A0.out.on HT_0.out)).mono ?_
              rintro e x1 ⟨hN, hu⟩
              have hbb : Below x0.heap.size x0 x1 := below_eq hu
              have HB_1 := hideM (HB_0.out.on hbb)
              have HT_1 := hideM (below_go HT_0.out hbb)
              have y0 := cell_on hbb z0
              have y1 := cell_on hbb z1
              have y2 := cell_on hbb z2
              clear hu z0 z1 z2
              have z0 := y0
              have z1 := y1
              have z2 := y2
              clear hbb y0 y1 y2
              rcases hN with ⟨h, rfl⟩ | ⟨h, rfl⟩
              rotate_left
              · have HF : R = false := by rw [HK.out, all_on HN.out rfl, HP.out, H_0.out, h]; first | done | simp
                go_wp2
                exact ⟨rfl, .inr ⟨HF, rfl⟩, HB_1.out.bel⟩
              have H_1 := hideM h
              clear h
              have HF : Hid (R = ((m.funcs.drop (j + 1)).all shF && ((m.tables ++ m.mems).all shL && (m.globals.all shG && (m.exports.all shE && (m.start.all idx && (m.elems.all (fun e => cstOk e.offset && e.funcs.all idx) && m.datas.all fun x => cstOk x.offset))))))) := hideM (by rw [HK.out, all_on HN.out rfl, HP.out, H_0.out, H_1.out]; first | done | simp)
              clear HK HN HP H_0 H_1
              go_wp2
              go_roundw
              case rel => exact ⟨j + 1, by omega, by go_num, HF, HB_1⟩
              case measure => simp [RowKit.intOf]; omega
            · have HEc : Hid (R = ((m.tables ++ m.mems).all shL && (m.globals.all shG && (m.exports.all shE && (m.start.all idx && (m.elems.all (fun e => cstOk e.offset && e.funcs.all idx) && m.datas.all fun x => cstOk x.offset)))))) := hideM (by rw [HK.out, all_end (by omega) (rfl : _ = (m.funcs.drop j).all shF)]; first | done | rfl | simp)
              clear HK
              generalize wr = woc at *
              obtain ⟨q0, q1, q2, q3, q4, q5, q6, q7, q8, q9, qb⟩ := HBc.out
              clear qb
              go_wp2_with fail
              refine (HCat.out _ _ (below_new HBc.out.bel _) (by rw [World.cell?_alloc_at _ _ _ _ rfl]; rfl) (by rw [World.cell?_alloc_at _ _ _ _ rfl]; rfl)).mono ?_
              rintro e wc ⟨⟨oL, cL, rfl, hrow⟩, hbb⟩
              have HBd := hideM ((HBc.out.new _).on hbb)
              have lL := hrow.1
              generalize hnL : (m.tables ++ m.mems).length = nL at *
              have HRL := hideM hrow
              clear hbb hrow HBc HCat q0 q1 q2 q3 q4 q5 q6 q7 q8 q9
              obtain ⟨q0, q1, q2, q3, q4, q5, q6, q7, q8, q9, qb⟩ := HBd.out
              clear qb
              go_wp2_with fail
              go_loopw [72] (fun i wr => ∃ j : Nat, j ≤ nL ∧ i = .int .i64 j ∧ Hid (R = (((m.tables ++ m.mems).drop j).all shL && (m.globals.all shG && (m.exports.all shE && (m.start.all idx && (m.elems.all (fun e => cstOk e.offset && e.funcs.all idx) && m.datas.all fun x => cstOk x.offset)))))) ∧ Hid (Box w (.slice o0 n0 c0) (.slice o1 n1 c1) (.slice o2 n2 c2) (.slice o3 n3 c3) (.slice o4 n4 c4) (.slice o5 n5 c5) (.slice o6 n6 c6) (.slice o7 n7 c7) (.slice o8 n8 c8) (.slice o9 n9 c9) wr) ∧ Hid (Row 3 (LimAt wr) (.slice oL nL cL) (m.tables ++ m.mems))) (fun i _ => nL - (RowKit.intOf i).toNat)
              case atStart => exact ⟨0, by omega, rfl, HEc, HBd, HRL⟩
              case round =>
                obtain ⟨j, hj, rfl, HK, HBe, HRW⟩ := hrel
                clear HEc HBd HRL
                clear q0 q1 q2 q3 q4 q5 q6 q7 q8 q9
                by_cases hgo : j < nL
                · obtain ⟨b, off, cap3, hv2, hx⟩ := Row.some HRW.out (by omega)
                  injection hv2 with ho h2 h3
                  subst ho
                  obtain ⟨x, hxk⟩ : ∃ x, (m.tables ++ m.mems)[j]? = some x := ⟨_, List.getElem?_eq_getElem (by omega)⟩
                  have hx' := hx j x hxk
                  have HN := hideM hxk
                  have k0 := hx'.min
                  have k1 := hx'.max
                  have k2 := hx'.has
                  have HP : Hid (shL x = ([x.min, x.max].all idx && (x.has || x.max == 0))) := rfl
                  clear hx h2 h3 hxk hx'
                  cases hh : x.has
                  · rw [hh] at k2
                    have HP := hideM (HP.out.trans (by rw [hh, Bool.false_or]))
                    clear hh
                    go_upto_region 22 with fail
                    obtain ⟨wa, hwa⟩ : ∃ wa, wa = wr.alloc (Obj.cells #[.int .i64 x.min, .int .i64 x.max, .bool false] 50) := ⟨_, rfl⟩
                    rw [← hwa]
                    have z0 : wa.cell? ⟨wr.heap.size, 0, none⟩ = some (.int .i64 x.min) := by rw [hwa]; exact new_cell _ _ _ _ _ rfl
                    have z1 : wa.cell? ⟨wr.heap.size, 1, none⟩ = some (.int .i64 x.max) := by rw [hwa]; exact new_cell _ _ _ _ _ rfl
                    have z2 : wa.cell? ⟨wr.heap.size, 2, none⟩ = some (.bool false) := by rw [hwa]; exact new_cell _ _ _ _ _ rfl
                    have hba : Below wr.heap.size wr wa := below_al hwa
                    have HBA := hideM (HBe.out.on hba)
                    have HRA := hideM (Row.lims hba HRW.out)
                    have HTA := hideM hba
                    clear hwa hba k0 k1 k2
                    go_wp2_with fail
                    refine (pneedIndices _ [x.min, x.max] _ (ints_new _ _ _ _ _ (by simp) (by simp))).mono ?_
                    rintro e x0 ⟨hN, hu⟩
                    have hbb : Below wa.heap.size wa x0 := below_al hu
                    have HB_0 := hideM (HBA.out.on hbb)
                    have HT_0 := hideM (below_go HTA.out hbb)
                    have HR_0 := hideM (Row.lims hbb HRA.out)
                    have y0 := cell_on hbb z0
                    have y1 := cell_on hbb z1
                    have y2 := cell_on hbb z2
                    clear hu z0 z1 z2
                    have z0 := y0
                    have z1 := y1
                    have z2 := y2
                    clear hbb y0 y1 y2
                    rcases hN with ⟨h, rfl⟩ | ⟨h, rfl⟩
                    rotate_left
                    · have HF : R = false := by rw [HK.out, all_on HN.out rfl, HP.out, h]; first | done | simp
                      go_wp2
                      exact ⟨rfl, .inr ⟨HF, rfl⟩, HB_0.out.bel⟩
                    have H_0 := hideM h
                    clear h
                    go_wp2_with fail
                    refine (pNeed (x.max == 0) 30 _).mono ?_
                    rintro e x1 ⟨hN, hu⟩
                    have hbb : Below x0.heap.size x0 x1 := below_eq hu
                    have HB_1 := hideM (HB_0.out.on hbb)
                    have HT_1 := hideM (below_go HT_0.out hbb)
                    have HR_1 := hideM (Row.lims hbb HR_0.out)
                    have y0 := cell_on hbb z0
                    have y1 := cell_on hbb z1
                    have y2 := cell_on hbb z2
                    clear hu z0 z1 z2
                    have z0 := y0
                    have z1 := y1
                    have z2 := y2
                    clear hbb y0 y1 y2
                    rcases hN with ⟨h, rfl⟩ | ⟨h, rfl⟩
                    rotate_left
                    · have HF : R = false := by rw [HK.out, all_on HN.out rfl, HP.out, H_0.out, h]; first | done | simp
                      go_wp2
                      exact ⟨rfl, .inr ⟨HF, rfl⟩, HB_1.out.bel⟩
                    have H_1 := hideM h
                    clear h
                    have HF : Hid (R = (((m.tables ++ m.mems).drop (j + 1)).all shL && (m.globals.all shG && (m.exports.all shE && (m.start.all idx && (m.elems.all (fun e => cstOk e.offset && e.funcs.all idx) && m.datas.all fun x => cstOk x.offset)))))) := hideM (by rw [HK.out, all_on HN.out rfl, HP.out, H_0.out, H_1.out]; first | done | simp)
                    clear HK HN HP H_0 H_1
                    go_wp2
                    go_roundw
                    case rel => exact ⟨j + 1, by omega, by go_num, HF, HB_1, HR_1⟩
                    case measure => simp [RowKit.intOf]; omega
                  · rw [hh] at k2
                    have HP := hideM (HP.out.trans (by rw [hh, Bool.true_or]))
                    clear hh
                    go_upto_region 22 with fail
                    obtain ⟨wa, hwa⟩ : ∃ wa, wa = wr.alloc (Obj.cells #[.int .i64 x.min, .int .i64 x.max, .bool true] 50) := ⟨_, rfl⟩
                    rw [← hwa]
                    have z0 : wa.cell? ⟨wr.heap.size, 0, none⟩ = some (.int .i64 x.min) := by rw [hwa]; exact new_cell _ _ _ _ _ rfl
                    have z1 : wa.cell? ⟨wr.heap.size, 1, none⟩ = some (.int .i64 x.max) := by rw [hwa]; exact new_cell _ _ _ _ _ rfl
                    have z2 : wa.cell? ⟨wr.heap.size, 2, none⟩ = some (.bool true) := by rw [hwa]; exact new_cell _ _ _ _ _ rfl
                    have hba : Below wr.heap.size wr wa := below_al hwa
                    have HBA := hideM (HBe.out.on hba)
                    have HRA := hideM (Row.lims hba HRW.out)
                    have HTA := hideM hba
                    clear hwa hba k0 k1 k2
                    go_wp2_with fail
                    refine (pneedIndices _ [x.min, x.max] _ (ints_new _ _ _ _ _ (by simp) (by simp))).mono ?_
                    rintro e x0 ⟨hN, hu⟩
                    have hbb : Below wa.heap.size wa x0 := below_al hu
                    have HB_0 := hideM (HBA.out.on hbb)
                    have HT_0 := hideM (below_go HTA.out hbb)
                    have HR_0 := hideM (Row.lims hbb HRA.out)
                    have y0 := cell_on hbb z0
                    have y1 := cell_on hbb z1
                    have y2 := cell_on hbb z2
                    clear hu z0 z1 z2
                    have z0 := y0
                    have z1 := y1
                    have z2 := y2
                    clear hbb y0 y1 y2
                    rcases hN with ⟨h, rfl⟩ | ⟨h, rfl⟩
                    rotate_left
                    · have HF : R = false := by rw [HK.out, all_on HN.out rfl, HP.out, h]; first | done | simp
                      go_wp2
                      exact ⟨rfl, .inr ⟨HF, rfl⟩, HB_0.out.bel⟩
                    have H_0 := hideM h
                    clear h
                    go_wp2_with fail
                    refine (pNeed true 30 _).mono ?_
                    rintro e x1 ⟨hN, hu⟩
                    have hbb : Below x0.heap.size x0 x1 := below_eq hu
                    have HB_1 := hideM (HB_0.out.on hbb)
                    have HT_1 := hideM (below_go HT_0.out hbb)
                    have HR_1 := hideM (Row.lims hbb HR_0.out)
                    have y0 := cell_on hbb z0
                    have y1 := cell_on hbb z1
                    have y2 := cell_on hbb z2
                    clear hu z0 z1 z2
                    have z0 := y0
                    have z1 := y1
                    have z2 := y2
                    clear hbb y0 y1 y2
                    rcases hN with ⟨h, rfl⟩ | ⟨h, rfl⟩
                    rotate_left
                    · have HF : R = false := by rw [HK.out, all_on HN.out rfl, HP.out, H_0.out, h]; first | done | simp
                      go_wp2
                      exact ⟨rfl, .inr ⟨HF, rfl⟩, HB_1.out.bel⟩
                    have H_1 := hideM h
                    clear h
                    have HF : Hid (R = (((m.tables ++ m.mems).drop (j + 1)).all shL && (m.globals.all shG && (m.exports.all shE && (m.start.all idx && (m.elems.all (fun e => cstOk e.offset && e.funcs.all idx) && m.datas.all fun x => cstOk x.offset)))))) := hideM (by rw [HK.out, all_on HN.out rfl, HP.out, H_0.out, H_1.out]; first | done | simp)
                    clear HK HN HP H_0 H_1
                    go_wp2
                    go_roundw
                    case rel => exact ⟨j + 1, by omega, by go_num, HF, HB_1, HR_1⟩
                    case measure => simp [RowKit.intOf]; omega
                · have HEe : Hid (R = (m.globals.all shG && (m.exports.all shE && (m.start.all idx && (m.elems.all (fun e => cstOk e.offset && e.funcs.all idx) && m.datas.all fun x => cstOk x.offset))))) := hideM (by rw [HK.out, all_end (by omega) (rfl : _ = ((m.tables ++ m.mems).drop j).all shL)]; first | done | rfl | simp)
                  clear HK HRW
                  generalize wr = woe at *
                  obtain ⟨q0, q1, q2, q3, q4, q5, q6, q7, q8, q9, qb⟩ := HBe.out
                  clear qb
                  go_wp2_with fail
                  go_loopw [94] (fun i wr => ∃ j : Nat, j ≤ n5 ∧ i = .int .i64 j ∧ Hid (R = ((m.globals.drop j).all shG && (m.exports.all shE && (m.start.all idx && (m.elems.all (fun e => cstOk e.offset && e.funcs.all idx) && m.datas.all fun x => cstOk x.offset))))) ∧ Hid (Box w (.slice o0 n0 c0) (.slice o1 n1 c1) (.slice o2 n2 c2) (.slice o3 n3 c3) (.slice o4 n4 c4) (.slice o5 n5 c5) (.slice o6 n6 c6) (.slice o7 n7 c7) (.slice o8 n8 c8) (.slice o9 n9 c9) wr)) (fun i _ => n5 - (RowKit.intOf i).toNat)
                  case atStart => exact ⟨0, by omega, rfl, HEe, HBe⟩
                  case round =>
                    obtain ⟨j, hj, rfl, HK, HBf⟩ := hrel
                    clear HEe HBe
                    clear q0 q1 q2 q3 q4 q5 q6 q7 q8 q9
                    by_cases hgo : j < n5
                    · have hmr := HM.out.on HBf.out.bel
                      obtain ⟨b, off, cap3, hv2, hx⟩ := Row.some hmr.globals (by omega)
                      injection hv2 with ho h2 h3
                      subst ho
                      obtain ⟨x, hxk⟩ : ∃ x, m.globals[j]? = some x := ⟨_, List.getElem?_eq_getElem (by omega)⟩
                      have hx' := hx j x hxk
                      have HN := hideM hxk
                      have k0 := hx'.type
                      have k1 := hx'.mtb
                      obtain ⟨g0, g1, g2, g3, ⟨lv, g4, a4⟩, ⟨bv, g5, a5⟩, ⟨ev, g6, a6⟩⟩ := hx'.init
                      obtain ⟨lo, lc, rfl⟩ := Row.len a4
                      obtain ⟨bo, bc, rfl⟩ := At.len d bv x.init.body a5
                      obtain ⟨eo, ec, rfl⟩ := At.len d ev x.init.els a6
                      have A4 := hideM a4
                      have HP : Hid (shG x = ([x.type].all typ && (cst x.init.op && okF (form x.init.op) x.init.op x.init.a x.init.b x.init.n x.init.labels (size d x.init.body) (size d x.init.els)))) := rfl
                      have k2 : wr.cell? ⟨b, off + j * 9 + 2, none⟩ = _ := g0
                      have k3 : wr.cell? ⟨b, off + j * 9 + 3, none⟩ = _ := g1
                      have k4 : wr.cell? ⟨b, off + j * 9 + 4, none⟩ = _ := g2
                      have k5 : wr.cell? ⟨b, off + j * 9 + 5, none⟩ = _ := g3
                      have k6 : wr.cell? ⟨b, off + j * 9 + 6, none⟩ = _ := g4
                      have k7 : wr.cell? ⟨b, off + j * 9 + 7, none⟩ = _ := g5
                      have k8 : wr.cell? ⟨b, off + j * 9 + 8, none⟩ = _ := g6
                      clear g0 g1 g2 g3 g4 g5 g6
                      generalize size d x.init.body = nb at *
                      generalize size d x.init.els = ne at *
                      clear a4 a5 a6
                      clear hmr hx h2 h3 hxk hx'
                      go_upto_region 28 with fail
                      obtain ⟨wa, hwa⟩ : ∃ wa, wa = wr.alloc (Obj.cells #[.int .i64 x.type, .bool x.mtb, .int .i64 x.init.op, .int .i64 x.init.a, .int .i64 x.init.b, .int .i64 x.init.n, .slice lo x.init.labels.length lc, .slice bo nb bc, .slice eo ne ec] 63) := ⟨_, rfl⟩
                      rw [← hwa]
                      have z0 : wa.cell? ⟨wr.heap.size, 0, none⟩ = some (.int .i64 x.type) := by rw [hwa]; exact new_cell _ _ _ _ _ rfl
                      have z1 : wa.cell? ⟨wr.heap.size, 1, none⟩ = some (.bool x.mtb) := by rw [hwa]; exact new_cell _ _ _ _ _ rfl
                      have z2 : wa.cell? ⟨wr.heap.size, 2, none⟩ = some (.int .i64 x.init.op) := by rw [hwa]; exact new_cell _ _ _ _ _ rfl
                      have z3 : wa.cell? ⟨wr.heap.size, 3, none⟩ = some (.int .i64 x.init.a) := by rw [hwa]; exact new_cell _ _ _ _ _ rfl
                      have z4 : wa.cell? ⟨wr.heap.size, 4, none⟩ = some (.int .i64 x.init.b) := by rw [hwa]; exact new_cell _ _ _ _ _ rfl
                      have z5 : wa.cell? ⟨wr.heap.size, 5, none⟩ = some (.int .i64 x.init.n) := by rw [hwa]; exact new_cell _ _ _ _ _ rfl
                      have z6 : wa.cell? ⟨wr.heap.size, 6, none⟩ = some (.slice lo x.init.labels.length lc) := by rw [hwa]; exact new_cell _ _ _ _ _ rfl
                      have z7 : wa.cell? ⟨wr.heap.size, 7, none⟩ = some (.slice bo nb bc) := by rw [hwa]; exact new_cell _ _ _ _ _ rfl
                      have z8 : wa.cell? ⟨wr.heap.size, 8, none⟩ = some (.slice eo ne ec) := by rw [hwa]; exact new_cell _ _ _ _ _ rfl
                      have hba : Below wr.heap.size wr wa := below_al hwa
                      have HBA := hideM (HBf.out.on hba)
                      have HTA := hideM hba
                      clear hwa hba k0 k1 k2 k3 k4 k5 k6 k7 k8
                      go_wp2_with fail
                      refine (pneedTypes _ [x.type] _ (ints_new _ _ _ _ _ (by simp) (by simp))).mono ?_
                      rintro e x0 ⟨hN, hu⟩
                      have hbb : Below wa.heap.size wa x0 := below_al hu
                      have HB_0 := hideM (HBA.out.on hbb)
                      have HT_0 := hideM (below_go HTA.out hbb)
                      have y0 := cell_on hbb z0
                      have y1 := cell_on hbb z1
                      have y2 := cell_on hbb z2
                      have y3 := cell_on hbb z3
                      have y4 := cell_on hbb z4
                      have y5 := cell_on hbb z5
                      have y6 := cell_on hbb z6
                      have y7 := cell_on hbb z7
                      have y8 := cell_on hbb z8
                      clear hu z0 z1 z2 z3 z4 z5 z6 z7 z8
                      have z0 := y0
                      have z1 := y1
                      have z2 := y2
                      have z3 := y3
                      have z4 := y4
                      have z5 := y5
                      have z6 := y6
                      have z7 := y7
                      have z8 := y8
                      clear hbb y0 y1 y2 y3 y4 y5 y6 y7 y8
                      rcases hN with ⟨h, rfl⟩ | ⟨h, rfl⟩
                      rotate_left
                      · have HF : R = false := by rw [HK.out, all_on HN.out rfl, HP.out, h]; first | done | simp
                        go_wp2
                        exact ⟨rfl, .inr ⟨HF, rfl⟩, HB_0.out.bel⟩
                      have H_0 := hideM h
                      clear h
                      go_wp2_with fail
                      refine (pneedConstant C.toFormC x.init.op x.init.a x.init.b x.init.n x.init.labels lo bo eo nb ne lc bc ec _ (C.keep HB_0.out.bel HII.out) (A4.out.on HT_0.out)).mono ?_
                      rintro e x1 ⟨hN, hu⟩
                      have hbb : Below x0.heap.size x0 x1 := hu
                      have HB_1 := hideM (HB_0.out.on hbb)
                      have HT_1 := hideM (below_go HT_0.out hbb)
                      have y0 := cell_on hbb z0
                      have y1 := cell_on hbb z1
                      have y2 := cell_on hbb z2
                      have y3 := cell_on hbb z3
                      have y4 := cell_on hbb z4
                      have y5 := cell_on hbb z5
                      have y6 := cell_on hbb z6
                      have y7 := cell_on hbb z7
                      have y8 := cell_on hbb z8
                      clear hu z0 z1 z2 z3 z4 z5 z6 z7 z8
                      have z0 := y0
                      have z1 := y1
                      have z2 := y2
                      have z3 := y3
                      have z4 := y4
                      have z5 := y5
                      have z6 := y6
                      have z7 := y7
                      have z8 := y8
                      clear hbb y0 y1 y2 y3 y4 y5 y6 y7 y8
                      rcases hN with ⟨h, rfl⟩ | ⟨h, rfl⟩
                      rotate_left
                      · have HF : R = false := by rw [HK.out, all_on HN.out rfl, HP.out, H_0.out, h]; first | done | simp
                        go_wp2
                        exact ⟨rfl, .inr ⟨HF, rfl⟩, HB_1.out.bel⟩
                      have H_1 := hideM h
                      clear h
                      have HF : Hid (R = ((m.globals.drop (j + 1)).all shG && (m.exports.all shE && (m.start.all idx && (m.elems.all (fun e => cstOk e.offset && e.funcs.all idx) && m.datas.all fun x => cstOk x.offset))))) := hideM (by rw [HK.out, all_on HN.out rfl, HP.out, H_0.out, H_1.out]; first | done | simp)
                      clear HK HN HP H_0 H_1
                      go_wp2
                      go_roundw
                      case rel => exact ⟨j + 1, by omega, by go_num, HF, HB_1⟩
                      case measure => simp [RowKit.intOf]; omega
                    · have HEf : Hid (R = (m.exports.all shE && (m.start.all idx && (m.elems.all (fun e => cstOk e.offset && e.funcs.all idx) && m.datas.all fun x => cstOk x.offset)))) := hideM (by rw [HK.out, all_end (by omega) (rfl : _ = (m.globals.drop j).all shG)]; first | done | rfl | simp)
                      clear HK
                      generalize wr = wof at *
                      obtain ⟨q0, q1, q2, q3, q4, q5, q6, q7, q8, q9, qb⟩ := HBf.out
                      clear qb
                      go_wp2_with fail
                      go_loopw [109] (fun i wr => ∃ j : Nat, j ≤ n6 ∧ i = .int .i64 j ∧ Hid (R = ((m.exports.drop j).all shE && (m.start.all idx && (m.elems.all (fun e => cstOk e.offset && e.funcs.all idx) && m.datas.all fun x => cstOk x.offset)))) ∧ Hid (Box w (.slice o0 n0 c0) (.slice o1 n1 c1) (.slice o2 n2 c2) (.slice o3 n3 c3) (.slice o4 n4 c4) (.slice o5 n5 c5) (.slice o6 n6 c6) (.slice o7 n7 c7) (.slice o8 n8 c8) (.slice o9 n9 c9) wr)) (fun i _ => n6 - (RowKit.intOf i).toNat)
                      case atStart => exact ⟨0, by omega, rfl, HEf, HBf⟩
                      case round =>
                        obtain ⟨j, hj, rfl, HK, HBg⟩ := hrel
                        clear HEf HBf
                        clear q0 q1 q2 q3 q4 q5 q6 q7 q8 q9
                        by_cases hgo : j < n6
                        · have hmr := HM.out.on HBg.out.bel
                          obtain ⟨b, off, cap3, hv2, hx⟩ := Row.some hmr.exports (by omega)
                          injection hv2 with ho h2 h3
                          subst ho
                          obtain ⟨x, hxk⟩ : ∃ x, m.exports[j]? = some x := ⟨_, List.getElem?_eq_getElem (by omega)⟩
                          have hx' := hx j x hxk
                          have HN := hideM hxk
                          have k0 := hx'.name
                          have k1 := hx'.kind
                          have k2 := hx'.index
                          have HSX := hideM (HXX.out.exports x (List.mem_of_getElem? hxk))
                          have HP : Hid (shE x = ([x.name].all nm && ((decide (0 ≤ x.kind) && decide (x.kind ≤ 3)) && [x.index].all idx))) := rfl
                          clear hmr hx h2 h3 hxk hx'
                          cases hh : decide (0 ≤ x.kind)
                          · have HP := hideM (HP.out.trans (by rw [hh, Bool.false_and]))
                            go_upto_region 34 with fail
                            obtain ⟨wa, hwa⟩ : ∃ wa, wa = wr.alloc (Obj.cells #[.string x.name, .int .i64 x.kind, .int .i64 x.index] 87) := ⟨_, rfl⟩
                            rw [← hwa]
                            have z0 : wa.cell? ⟨wr.heap.size, 0, none⟩ = some (.string x.name) := by rw [hwa]; exact new_cell _ _ _ _ _ rfl
                            have z1 : wa.cell? ⟨wr.heap.size, 1, none⟩ = some (.int .i64 x.kind) := by rw [hwa]; exact new_cell _ _ _ _ _ rfl
                            have z2 : wa.cell? ⟨wr.heap.size, 2, none⟩ = some (.int .i64 x.index) := by rw [hwa]; exact new_cell _ _ _ _ _ rfl
                            have hba : Below wr.heap.size wr wa := below_al hwa
                            have HBA := hideM (HBg.out.on hba)
                            have HTA := hideM hba
                            clear hwa hba k0 k1 k2
                            go_wp2_with fail
                            refine (pneedNames C _ [x.name] _ (C.keep (below_new HBA.out.bel _) HII.out) (strs_new _ _ _ _ _ (by simp) (by simp)) (one_sz HSX.out)).mono ?_
                            rintro e x0 ⟨hN, hu⟩
                            have hbb : Below wa.heap.size wa x0 := below_go ((Below.refl _ _).alloc (Nat.le_refl _) _) hu
                            have HB_0 := hideM (HBA.out.on hbb)
                            have HT_0 := hideM (below_go HTA.out hbb)
                            have y0 := cell_on hbb z0
                            have y1 := cell_on hbb z1
                            have y2 := cell_on hbb z2
                            clear hu z0 z1 z2
                            have z0 := y0
                            have z1 := y1
                            have z2 := y2
                            clear hbb y0 y1 y2
                            rcases hN with ⟨h, rfl⟩ | ⟨h, rfl⟩
                            rotate_left
                            · have HF : R = false := by rw [HK.out, all_on HN.out rfl, HP.out, h]; first | done | simp
                              go_wp2
                              exact ⟨rfl, .inr ⟨HF, rfl⟩, HB_0.out.bel⟩
                            have H_0 := hideM h
                            clear h
                            go_wp2_with fail
                            refine (pNeed false 30 _).mono ?_
                            rintro e x1 ⟨hN, hu⟩
                            have hbb : Below x0.heap.size x0 x1 := below_eq hu
                            have HB_1 := hideM (HB_0.out.on hbb)
                            have HT_1 := hideM (below_go HT_0.out hbb)
                            have y0 := cell_on hbb z0
                            have y1 := cell_on hbb z1
                            have y2 := cell_on hbb z2
                            clear hu z0 z1 z2
                            have z0 := y0
                            have z1 := y1
                            have z2 := y2
                            clear hbb y0 y1 y2
                            rcases hN with ⟨h, rfl⟩ | ⟨h, rfl⟩
                            rotate_left
                            · have HF : R = false := by rw [HK.out, all_on HN.out rfl, HP.out, H_0.out, h]; first | done | simp
                              go_wp2
                              exact ⟨rfl, .inr ⟨HF, rfl⟩, HB_1.out.bel⟩
                            cases h
                          · have HP := hideM (HP.out.trans (by rw [hh, Bool.true_and]))
                            go_upto_region 34 with fail
                            obtain ⟨wa, hwa⟩ : ∃ wa, wa = wr.alloc (Obj.cells #[.string x.name, .int .i64 x.kind, .int .i64 x.index] 87) := ⟨_, rfl⟩
                            rw [← hwa]
                            have z0 : wa.cell? ⟨wr.heap.size, 0, none⟩ = some (.string x.name) := by rw [hwa]; exact new_cell _ _ _ _ _ rfl
                            have z1 : wa.cell? ⟨wr.heap.size, 1, none⟩ = some (.int .i64 x.kind) := by rw [hwa]; exact new_cell _ _ _ _ _ rfl
                            have z2 : wa.cell? ⟨wr.heap.size, 2, none⟩ = some (.int .i64 x.index) := by rw [hwa]; exact new_cell _ _ _ _ _ rfl
                            have hba : Below wr.heap.size wr wa := below_al hwa
                            have HBA := hideM (HBg.out.on hba)
                            have HTA := hideM hba
                            clear hwa hba k0 k1 k2
                            go_wp2_with fail
                            refine (pneedNames C _ [x.name] _ (C.keep (below_new HBA.out.bel _) HII.out) (strs_new _ _ _ _ _ (by simp) (by simp)) (one_sz HSX.out)).mono ?_
                            rintro e x0 ⟨hN, hu⟩
                            have hbb : Below wa.heap.size wa x0 := below_go ((Below.refl _ _).alloc (Nat.le_refl _) _) hu
                            have HB_0 := hideM (HBA.out.on hbb)
                            have HT_0 := hideM (below_go HTA.out hbb)
                            have y0 := cell_on hbb z0
                            have y1 := cell_on hbb z1
                            have y2 := cell_on hbb z2
                            clear hu z0 z1 z2
                            have z0 := y0
                            have z1 := y1
                            have z2 := y2
                            clear hbb y0 y1 y2
                            rcases hN with ⟨h, rfl⟩ | ⟨h, rfl⟩
                            rotate_left
                            · have HF : R = false := by rw [HK.out, all_on HN.out rfl, HP.out, h]; first | done | simp
                              go_wp2
                              exact ⟨rfl, .inr ⟨HF, rfl⟩, HB_0.out.bel⟩
                            have H_0 := hideM h
                            clear h
                            go_wp2_with fail
                            refine (pNeed (decide (x.kind ≤ 3)) 30 _).mono ?_
                            rintro e x1 ⟨hN, hu⟩
                            have hbb : Below x0.heap.size x0 x1 := below_eq hu
                            have HB_1 := hideM (HB_0.out.on hbb)
                            have HT_1 := hideM (below_go HT_0.out hbb)
                            have y0 := cell_on hbb z0
                            have y1 := cell_on hbb z1
                            have y2 := cell_on hbb z2
                            clear hu z0 z1 z2
                            have z0 := y0
                            have z1 := y1
                            have z2 := y2
                            clear hbb y0 y1 y2
                            rcases hN with ⟨h, rfl⟩ | ⟨h, rfl⟩
                            rotate_left
                            · have HF : R = false := by rw [HK.out, all_on HN.out rfl, HP.out, H_0.out, h]; first | done | simp
                              go_wp2
                              exact ⟨rfl, .inr ⟨HF, rfl⟩, HB_1.out.bel⟩
                            have H_1 := hideM h
                            clear h
                            go_wp2_with fail
                            refine (pneedIndices _ [x.index] _ (ints_new _ _ _ _ _ (by simp) (by simp))).mono ?_
                            rintro e x2 ⟨hN, hu⟩
                            have hbb : Below x1.heap.size x1 x2 := below_al hu
                            have HB_2 := hideM (HB_1.out.on hbb)
                            have HT_2 := hideM (below_go HT_1.out hbb)
                            have y0 := cell_on hbb z0
                            have y1 := cell_on hbb z1
                            have y2 := cell_on hbb z2
                            clear hu z0 z1 z2
                            have z0 := y0
                            have z1 := y1
                            have z2 := y2
                            clear hbb y0 y1 y2
                            rcases hN with ⟨h, rfl⟩ | ⟨h, rfl⟩
                            rotate_left
                            · have HF : R = false := by rw [HK.out, all_on HN.out rfl, HP.out, H_0.out, H_1.out, h]; first | done | simp
                              go_wp2
                              exact ⟨rfl, .inr ⟨HF, rfl⟩, HB_2.out.bel⟩
                            have H_2 := hideM h
                            clear h
                            have HF : Hid (R = ((m.exports.drop (j + 1)).all shE && (m.start.all idx && (m.elems.all (fun e => cstOk e.offset && e.funcs.all idx) && m.datas.all fun x => cstOk x.offset)))) := hideM (by rw [HK.out, all_on HN.out rfl, HP.out, H_0.out, H_1.out, H_2.out]; first | done | simp)
                            clear HK HN HP H_0 H_1 H_2
                            go_wp2
                            go_roundw
                            case rel => exact ⟨j + 1, by omega, by go_num, HF, HB_2⟩
                            case measure => simp [RowKit.intOf]; omega
                        · have HEg : Hid (R = (m.start.all idx && (m.elems.all (fun e => cstOk e.offset && e.funcs.all idx) && m.datas.all fun x => cstOk x.offset))) := hideM (by rw [HK.out, all_end (by omega) (rfl : _ = (m.exports.drop j).all shE)]; first | done | rfl | simp)
                          clear HK
                          generalize wr = wog at *
                          obtain ⟨q0, q1, q2, q3, q4, q5, q6, q7, q8, q9, qb⟩ := HBg.out
                          clear qb
                          go_wp2_with fail
                          refine (pneedIndices _ m.start _ (HM.out.on HBg.out.bel).start).mono ?_
                          rintro e u ⟨hN, rfl⟩
                          rcases hN with ⟨h, rfl⟩ | ⟨h, rfl⟩
                          rotate_left
                          · have HF : R = false := by rw [HEg.out, h, Bool.false_and]
                            go_wp2
                            exact ⟨rfl, .inr ⟨HF, rfl⟩, HBg.out.bel⟩
                          have HEh := hideM (HEg.out.trans (by rw [h, Bool.true_and]))
                          clear h HEg
                          go_wp2_with fail
                          go_loopw [137] (fun i wr => ∃ j : Nat, j ≤ n8 ∧ i = .int .i64 j ∧ Hid (R = ((m.elems.drop j).all (fun e => cstOk e.offset && e.funcs.all idx) && m.datas.all fun x => cstOk x.offset)) ∧ Hid (Box w (.slice o0 n0 c0) (.slice o1 n1 c1) (.slice o2 n2 c2) (.slice o3 n3 c3) (.slice o4 n4 c4) (.slice o5 n5 c5) (.slice o6 n6 c6) (.slice o7 n7 c7) (.slice o8 n8 c8) (.slice o9 n9 c9) wr)) (fun i _ => n8 - (RowKit.intOf i).toNat)
                          case atStart => exact ⟨0, by omega, rfl, HEh, HBg⟩
                          case round =>
                            obtain ⟨j, hj, rfl, HK, HBi⟩ := hrel
                            clear HEh HBg
                            clear q0 q1 q2 q3 q4 q5 q6 q7 q8 q9
                            by_cases hgo : j < n8
                            · have hmr := HM.out.on HBi.out.bel
                              obtain ⟨b, off, cap3, hv2, hx⟩ := Row.some hmr.elems (by omega)
                              injection hv2 with ho h2 h3
                              subst ho
                              obtain ⟨x, hxk⟩ : ∃ x, m.elems[j]? = some x := ⟨_, List.getElem?_eq_getElem (by omega)⟩
                              have hx' := hx j x hxk
                              have HN := hideM hxk
                              obtain ⟨g0, g1, g2, g3, ⟨lv, g4, a4⟩, ⟨bv, g5, a5⟩, ⟨ev, g6, a6⟩⟩ := hx'.offset
                              obtain ⟨lo, lc, rfl⟩ := Row.len a4
                              obtain ⟨bo, bc, rfl⟩ := At.len d bv x.offset.body a5
                              obtain ⟨eo, ec, rfl⟩ := At.len d ev x.offset.els a6
                              have A4 := hideM a4
                              obtain ⟨pv, k7, a0⟩ := hx'.funcs
                              obtain ⟨po, pc, rfl⟩ := Row.len a0
                              have A0 := hideM a0
                              have HP : Hid ((fun e : Elm d => cstOk e.offset && e.funcs.all idx) x = ((cst x.offset.op && okF (form x.offset.op) x.offset.op x.offset.a x.offset.b x.offset.n x.offset.labels (size d x.offset.body) (size d x.offset.els)) && x.funcs.all idx)) := rfl
                              have k0 := g0
                              have k1 := g1
                              have k2 := g2
                              have k3 := g3
                              have k4 := g4
                              have k5 := g5
                              have k6 := g6
                              clear g0 g1 g2 g3 g4 g5 g6 a0
                              generalize size d x.offset.body = nb at *
                              generalize size d x.offset.els = ne at *
                              clear a4 a5 a6
                              clear hmr hx h2 h3 hxk hx'
                              go_upto_region 42 with fail
                              obtain ⟨wa, hwa⟩ : ∃ wa, wa = wr.alloc (Obj.cells #[.int .i64 x.offset.op, .int .i64 x.offset.a, .int .i64 x.offset.b, .int .i64 x.offset.n, .slice lo x.offset.labels.length lc, .slice bo nb bc, .slice eo ne ec, .slice po x.funcs.length pc] 61) := ⟨_, rfl⟩
                              rw [← hwa]
                              have z0 : wa.cell? ⟨wr.heap.size, 0, none⟩ = some (.int .i64 x.offset.op) := by rw [hwa]; exact new_cell _ _ _ _ _ rfl
                              have z1 : wa.cell? ⟨wr.heap.size, 1, none⟩ = some (.int .i64 x.offset.a) := by rw [hwa]; exact new_cell _ _ _ _ _ rfl
                              have z2 : wa.cell? ⟨wr.heap.size, 2, none⟩ = some (.int .i64 x.offset.b) := by rw [hwa]; exact new_cell _ _ _ _ _ rfl
                              have z3 : wa.cell? ⟨wr.heap.size, 3, none⟩ = some (.int .i64 x.offset.n) := by rw [hwa]; exact new_cell _ _ _ _ _ rfl
                              have z4 : wa.cell? ⟨wr.heap.size, 4, none⟩ = some (.slice lo x.offset.labels.length lc) := by rw [hwa]; exact new_cell _ _ _ _ _ rfl
                              have z5 : wa.cell? ⟨wr.heap.size, 5, none⟩ = some (.slice bo nb bc) := by rw [hwa]; exact new_cell _ _ _ _ _ rfl
                              have z6 : wa.cell? ⟨wr.heap.size, 6, none⟩ = some (.slice eo ne ec) := by rw [hwa]; exact new_cell _ _ _ _ _ rfl
                              have z7 : wa.cell? ⟨wr.heap.size, 7, none⟩ = some (.slice po x.funcs.length pc) := by rw [hwa]; exact new_cell _ _ _ _ _ rfl
                              have hba : Below wr.heap.size wr wa := below_al hwa
                              have HBA := hideM (HBi.out.on hba)
                              have HTA := hideM hba
                              clear hwa hba k0 k1 k2 k3 k4 k5 k6 k7
                              go_wp2_with fail
                              refine (pneedConstant C.toFormC x.offset.op x.offset.a x.offset.b x.offset.n x.offset.labels lo bo eo nb ne lc bc ec _ (C.keep HBA.out.bel HII.out) (A4.out.on HTA.out)).mono ?_
                              rintro e x0 ⟨hN, hu⟩
                              have hbb : Below wa.heap.size wa x0 := hu
                              have HB_0 := hideM (HBA.out.on hbb)
                              have HT_0 := hideM (below_go HTA.out hbb)
                              have y0 := cell_on hbb z0
                              have y1 := cell_on hbb z1
                              have y2 := cell_on hbb z2
                              have y3 := cell_on hbb z3
                              have y4 := cell_on hbb z4
                              have y5 := cell_on hbb z5
                              have y6 := cell_on hbb z6
                              have y7 := cell_on hbb z7
                              clear hu z0 z1 z2 z3 z4 z5 z6 z7
                              have z0 := y0
                              have z1 := y1
                              have z2 := y2
                              have z3 := y3
                              have z4 := y4
                              have z5 := y5
                              have z6 := y6
                              have z7 := y7
                              clear hbb y0 y1 y2 y3 y4 y5 y6 y7
                              rcases hN with ⟨h, rfl⟩ | ⟨h, rfl⟩
                              rotate_left
                              · have HF : R = false := by rw [HK.out, all_on HN.out rfl, HP.out, h]; first | done | simp
                                go_wp2
                                exact ⟨rfl, .inr ⟨HF, rfl⟩, HB_0.out.bel⟩
                              have H_0 := hideM h
                              clear h
                              go_wp2_with fail
                              refine (pneedIndices _ x.funcs _ (A0.out.on HT_0.out)).mono ?_
                              rintro e x1 ⟨hN, hu⟩
                              have hbb : Below x0.heap.size x0 x1 := below_eq hu
                              have HB_1 := hideM (HB_0.out.on hbb)
                              have HT_1 := hideM (below_go HT_0.out hbb)
                              have y0 := cell_on hbb z0
                              have y1 := cell_on hbb z1
                              have y2 := cell_on hbb z2
                              have y3 := cell_on hbb z3
                              have y4 := cell_on hbb z4
                              have y5 := cell_on hbb z5
                              have y6 := cell_on hbb z6
                              have y7 := cell_on hbb z7
                              clear hu z0 z1 z2 z3 z4 z5 z6 z7
                              have z0 := y0
                              have z1 := y1
                              have z2 := y2
                              have z3 := y3
                              have z4 := y4
                              have z5 := y5
                              have z6 := y6
                              have z7 := y7
                              clear hbb y0 y1 y2 y3 y4 y5 y6 y7
                              rcases hN with ⟨h, rfl⟩ | ⟨h, rfl⟩
                              rotate_left
                              · have HF : R = false := by rw [HK.out, all_on HN.out rfl, HP.out, H_0.out, h]; first | done | simp
                                go_wp2
                                exact ⟨rfl, .inr ⟨HF, rfl⟩, HB_1.out.bel⟩
                              have H_1 := hideM h
                              clear h
                              have HF : Hid (R = ((m.elems.drop (j + 1)).all (fun e => cstOk e.offset && e.funcs.all idx) && m.datas.all fun x => cstOk x.offset)) := hideM (by rw [HK.out, all_on HN.out rfl, HP.out, H_0.out, H_1.out]; first | done | simp)
                              clear HK HN HP H_0 H_1
                              go_wp2
                              go_roundw
                              case rel => exact ⟨j + 1, by omega, by go_num, HF, HB_1⟩
                              case measure => simp [RowKit.intOf]; omega
                            · have HEi : Hid (R = m.datas.all fun x => cstOk x.offset) := hideM (by rw [HK.out, all_end (by omega) (rfl : _ = (m.elems.drop j).all (fun e => cstOk e.offset && e.funcs.all idx))]; first | done | rfl | simp)
                              clear HK
                              generalize wr = woi at *
                              obtain ⟨q0, q1, q2, q3, q4, q5, q6, q7, q8, q9, qb⟩ := HBi.out
                              clear qb
                              go_wp2_with fail
                              go_loopw [151] (fun i wr => ∃ j : Nat, j ≤ n9 ∧ i = .int .i64 j ∧ Hid (R = ((m.datas.drop j).all (fun x => cstOk x.offset))) ∧ Hid (Box w (.slice o0 n0 c0) (.slice o1 n1 c1) (.slice o2 n2 c2) (.slice o3 n3 c3) (.slice o4 n4 c4) (.slice o5 n5 c5) (.slice o6 n6 c6) (.slice o7 n7 c7) (.slice o8 n8 c8) (.slice o9 n9 c9) wr)) (fun i _ => n9 - (RowKit.intOf i).toNat)
                              case atStart => exact ⟨0, by omega, rfl, HEi, HBi⟩
                              case round =>
                                obtain ⟨j, hj, rfl, HK, HBk⟩ := hrel
                                clear HEi HBi
                                clear q0 q1 q2 q3 q4 q5 q6 q7 q8 q9
                                by_cases hgo : j < n9
                                · have hmr := HM.out.on HBk.out.bel
                                  obtain ⟨b, off, cap3, hv2, hx⟩ := Row.some hmr.datas (by omega)
                                  injection hv2 with ho h2 h3
                                  subst ho
                                  obtain ⟨x, hxk⟩ : ∃ x, m.datas[j]? = some x := ⟨_, List.getElem?_eq_getElem (by omega)⟩
                                  have hx' := hx j x hxk
                                  have HN := hideM hxk
                                  obtain ⟨g0, g1, g2, g3, ⟨lv, g4, a4⟩, ⟨bv, g5, a5⟩, ⟨ev, g6, a6⟩⟩ := hx'.offset
                                  obtain ⟨lo, lc, rfl⟩ := Row.len a4
                                  obtain ⟨bo, bc, rfl⟩ := At.len d bv x.offset.body a5
                                  obtain ⟨eo, ec, rfl⟩ := At.len d ev x.offset.els a6
                                  have A4 := hideM a4
                                  have k7 := hx'.bytes
                                  have HP : Hid ((fun x : Dat d => cstOk x.offset) x = (cst x.offset.op && okF (form x.offset.op) x.offset.op x.offset.a x.offset.b x.offset.n x.offset.labels (size d x.offset.body) (size d x.offset.els))) := rfl
                                  have k0 := g0
                                  have k1 := g1
                                  have k2 := g2
                                  have k3 := g3
                                  have k4 := g4
                                  have k5 := g5
                                  have k6 := g6
                                  clear g0 g1 g2 g3 g4 g5 g6
                                  generalize size d x.offset.body = nb at *
                                  generalize size d x.offset.els = ne at *
                                  clear a4 a5 a6
                                  clear hmr hx h2 h3 hxk hx'
                                  go_upto_region 48 with fail
                                  obtain ⟨wa, hwa⟩ : ∃ wa, wa = wr.alloc (Obj.cells #[.int .i64 x.offset.op, .int .i64 x.offset.a, .int .i64 x.offset.b, .int .i64 x.offset.n, .slice lo x.offset.labels.length lc, .slice bo nb bc, .slice eo ne ec, .string x.bytes] 55) := ⟨_, rfl⟩
                                  rw [← hwa]
                                  have z0 : wa.cell? ⟨wr.heap.size, 0, none⟩ = some (.int .i64 x.offset.op) := by rw [hwa]; exact new_cell _ _ _ _ _ rfl
                                  have z1 : wa.cell? ⟨wr.heap.size, 1, none⟩ = some (.int .i64 x.offset.a) := by rw [hwa]; exact new_cell _ _ _ _ _ rfl
                                  have z2 : wa.cell? ⟨wr.heap.size, 2, none⟩ = some (.int .i64 x.offset.b) := by rw [hwa]; exact new_cell _ _ _ _ _ rfl
                                  have z3 : wa.cell? ⟨wr.heap.size, 3, none⟩ = some (.int .i64 x.offset.n) := by rw [hwa]; exact new_cell _ _ _ _ _ rfl
                                  have z4 : wa.cell? ⟨wr.heap.size, 4, none⟩ = some (.slice lo x.offset.labels.length lc) := by rw [hwa]; exact new_cell _ _ _ _ _ rfl
                                  have z5 : wa.cell? ⟨wr.heap.size, 5, none⟩ = some (.slice bo nb bc) := by rw [hwa]; exact new_cell _ _ _ _ _ rfl
                                  have z6 : wa.cell? ⟨wr.heap.size, 6, none⟩ = some (.slice eo ne ec) := by rw [hwa]; exact new_cell _ _ _ _ _ rfl
                                  have z7 : wa.cell? ⟨wr.heap.size, 7, none⟩ = some (.string x.bytes) := by rw [hwa]; exact new_cell _ _ _ _ _ rfl
                                  have hba : Below wr.heap.size wr wa := below_al hwa
                                  have HBA := hideM (HBk.out.on hba)
                                  have HTA := hideM hba
                                  clear hwa hba k0 k1 k2 k3 k4 k5 k6 k7
                                  go_wp2_with fail
                                  refine (pneedConstant C.toFormC x.offset.op x.offset.a x.offset.b x.offset.n x.offset.labels lo bo eo nb ne lc bc ec _ (C.keep HBA.out.bel HII.out) (A4.out.on HTA.out)).mono ?_
                                  rintro e x0 ⟨hN, hu⟩
                                  have hbb : Below wa.heap.size wa x0 := hu
                                  have HB_0 := hideM (HBA.out.on hbb)
                                  have HT_0 := hideM (below_go HTA.out hbb)
                                  have y0 := cell_on hbb z0
                                  have y1 := cell_on hbb z1
                                  have y2 := cell_on hbb z2
                                  have y3 := cell_on hbb z3
                                  have y4 := cell_on hbb z4
                                  have y5 := cell_on hbb z5
                                  have y6 := cell_on hbb z6
                                  have y7 := cell_on hbb z7
                                  clear hu z0 z1 z2 z3 z4 z5 z6 z7
                                  have z0 := y0
                                  have z1 := y1
                                  have z2 := y2
                                  have z3 := y3
                                  have z4 := y4
                                  have z5 := y5
                                  have z6 := y6
                                  have z7 := y7
                                  clear hbb y0 y1 y2 y3 y4 y5 y6 y7
                                  rcases hN with ⟨h, rfl⟩ | ⟨h, rfl⟩
                                  rotate_left
                                  · have HF : R = false := by rw [HK.out, all_on HN.out rfl, HP.out, h]; first | done | simp
                                    go_wp2
                                    exact ⟨rfl, .inr ⟨HF, rfl⟩, HB_0.out.bel⟩
                                  have H_0 := hideM h
                                  clear h
                                  have HF : Hid (R = ((m.datas.drop (j + 1)).all (fun x => cstOk x.offset))) := hideM (by rw [HK.out, all_on HN.out rfl, HP.out, H_0.out]; first | done | simp)
                                  clear HK HN HP H_0
                                  go_wp2
                                  go_roundw
                                  case rel => exact ⟨j + 1, by omega, by go_num, HF, HB_0⟩
                                  case measure => simp [RowKit.intOf]; omega
                                · have HEk : Hid (R = true) := hideM (by rw [HK.out, all_end (by omega) (rfl : _ = (m.datas.drop j).all (fun x => cstOk x.offset))]; first | done | rfl | simp)
                                  clear HK
                                  generalize wr = wok at *
                                  obtain ⟨q0, q1, q2, q3, q4, q5, q6, q7, q8, q9, qb⟩ := HBk.out
                                  clear qb
                                  go_wp2
                                  go_end0
                                  exact ⟨.inl ⟨HEk.out, rfl⟩, HBk.out.bel⟩
end Go.Proofs.YtloelineidlenaaGreatDoor

namespace Go.Proofs
open Go.RowKit Go.Shelf Go.Lib

shelf_lay Lays.n196 Nm 196 at Tryz as Tryz.laysValid

namespace YtloelineidlenaaGreatDoor
open Go.RowKit Rep
def UtfI (w : World) : Prop := Lib.Utf8Tabs (Tryz.laysValid_ren.g 3) (Tryz.laysValid_ren.g 4) w

set_option maxHeartbeats 1000000 in
set_option maxRecDepth 1000000 in
theorem pName (s : ByteArray) (w : World) (hs : s.size ≤ 9223372036854775807) (hT : UtfI w) :
    Calls Tryz.prog 113 #[.string s] w fun e w' => e = .returned (.bool (nm s)) ∧ Below w.heap.size w w' := by
  have cV : Calls Tryz.prog 129 #[.string s] w _ := Any.utf8_ValidString Tryz.laysValid s w (by omega) hT
  unfold nm
  generalize Lib.validD s.data.toList = V at cV ⊢
  have CV := hideM cV
  clear cV
  by_cases h0 : s.size ≤ 64
  · have h0z : decide ((s.size : Int) ≤ 64) = true := by simp; omega
    rw [h0z, Bool.true_and]
    go_enter Tryz.func113, Tryz.ntmps113
    go_wp2_with fail
    refine CV.out.mono ?_
    rintro e w' ⟨rfl, hb⟩
    go_wp2
    go_ret
    exact ⟨rfl, hb⟩
  · have h0z : decide ((s.size : Int) ≤ 64) = false := by simp; omega
    rw [h0z, Bool.false_and]
    clear CV
    go_enter Tryz.func113, Tryz.ntmps113
    go_wp2
    go_ret
    exact ⟨rfl, Below.refl _ _⟩
end YtloelineidlenaaGreatDoor
end Go.Proofs

namespace Go.Proofs
open Go.RowKit Go.Shelf Go.Lib

shelf_lay_g Lays8.n4 Nm8 4 at Tryz 114 as Tryz.growL

namespace YtloelineidlenaaGreatDoor
open Go.RowKit Rep
namespace Rep
def limCells : List Lim → List Value
  | [] => []
  | x :: r => .int .i64 x.min :: .int .i64 x.max :: .bool x.has :: limCells r
theorem limCells_len : ∀ l : List Lim, (limCells l).length = l.length * 3
  | [] => rfl
  | x :: r => by show (limCells r).length + 1 + 1 + 1 = (r.length + 1) * 3; rw [limCells_len r]; omega
theorem limCells_app : ∀ a b : List Lim, limCells (a ++ b) = limCells a ++ limCells b
  | [], _ => rfl
  | x :: r, b => by show _ :: _ :: _ :: limCells (r ++ b) = _; rw [limCells_app r b]; rfl
theorem limCells_one : ∀ (l : List Lim) (u : Value), u ∈ limCells l → u.oneCell' = true
  | [], _, h => by cases h
  | x :: r, u, h => by
    simp only [limCells, List.mem_cons] at h
    rcases h with rfl | rfl | rfl | h
    · rfl
    · rfl
    · rfl
    · exact limCells_one r u h
theorem limCells_get : ∀ (l : List Lim) (i : Nat) (x : Lim), l[i]? = some x → (limCells l)[i * 3]? = some (.int .i64 x.min) ∧ (limCells l)[i * 3 + 1]? = some (.int .i64 x.max) ∧ (limCells l)[i * 3 + 2]? = some (.bool x.has)
  | [], _, _, h => by simp at h
  | y :: r, 0, x, h => by
    simp at h; subst h; exact ⟨rfl, rfl, rfl⟩
  | y :: r, i + 1, x, h => by
    have h' : r[i]? = some x := by simpa using h
    have := limCells_get r i x h'
    have e : (i + 1) * 3 = i * 3 + 1 + 1 + 1 := by omega
    rw [e]
    simpa [limCells] using this
theorem limCells_at {w : World} {b off : Nat} : ∀ (l : List Lim) (o : Nat), (∀ (i : Nat) (x : Lim), l[i]? = some x → LimAt w b (o + i * 3) x) → ∀ j u, (limCells l)[j]? = some u → w.cell? ⟨b, o + j, none⟩ = some u
  | [], _, _, _, _, h => by simp [limCells] at h
  | x :: r, o, hx, j, u, h => by
    have h0 := hx 0 x rfl
    match j, h with
    | 0, h => simp [limCells] at h; subst h; simpa using h0.min
    | 1, h => simp [limCells] at h; subst h; simpa using h0.max
    | 2, h => simp [limCells] at h; subst h; simpa using h0.has
    | j + 3, h =>
      have h' : (limCells r)[j]? = some u := by simpa [limCells] using h
      have := limCells_at (b := b) (off := off) r (o + 3) (fun i y hy => by
        have := hx (i + 1) y (by simpa using hy)
        rw [show o + 3 + i * 3 = o + (i + 1) * 3 by omega]; exact this) j u h'
      rw [show o + (j + 3) = o + 3 + j by omega]; exact this
end Rep
end YtloelineidlenaaGreatDoor
end Go.Proofs

namespace Go.Proofs.YtloelineidlenaaGreatDoor
open Go.RowKit Go.Shelf Rep
set_option linter.unusedVariables false
namespace Rep
def upto (L3 L4 : List Lim) (j : Nat) : List Lim := if j = 0 then [] else if j = 1 then L3 else L3 ++ L4
def nth (L3 L4 : List Lim) (j : Nat) : List Lim := if j = 0 then L3 else L4
theorem upto_on (L3 L4 : List Lim) (j : Nat) (h : j < 2) : upto L3 L4 (j + 1) = upto L3 L4 j ++ nth L3 L4 j := by
  rcases (by omega : j = 0 ∨ j = 1) with rfl | rfl <;> rfl
theorem below_grown {B : Nat} {a w w' : World} {v : Value} {n e : Nat} {xs : List Value} (h : Below B a w) (hown : w.ownsRow B e 3 v n xs) (hg : w.grownBy w' v.ownBlock) (hB : B ≤ w.heap.size) : Below B a w' :=
  h.grown hg hB fun k hk => (hown.lt k hk).1
theorem addr_eq (g k o : Nat) (h : o = 0 + k) : (⟨g, o, none⟩ : Addr) = (⟨g, 0, none⟩ : Addr).add k := by
  subst h
  by_cases hk : k = 0
  · subst hk; rfl
  · simp [Addr.add, hk]
theorem addr_eq' (g o k : Nat) : (⟨g, o, none⟩ : Addr).add k = ⟨g, o + k, none⟩ := by
  by_cases hk : k = 0
  · subst hk; rfl
  · simp [Addr.add, hk]
theorem row_none {w : World} {n c : Nat} {L : List Lim} (h : Row 3 (LimAt w) (.slice none n c) L) : L = [] := by
  rcases h.2 with ⟨h, _⟩ | ⟨_, _, _, h, _⟩
  · exact h
  · injection h with h; cases h
theorem row_at {w : World} {ad : Addr} {n c : Nat} {L : List Lim} (h : Row 3 (LimAt w) (.slice (some ad) n c) L) : ∀ jx ux, (limCells L)[jx]? = some ux → w.cell? (ad.add jx) = some ux := by
  intro jx ux hx
  rcases h.2 with ⟨h, _⟩ | ⟨bb, oo, cc, h, hcell⟩
  · rw [h] at hx; simp [limCells] at hx
  · injection h with h1; injection h1 with h1; subst h1
    have := limCells_at (off := 0) L oo hcell jx ux hx
    rw [addr_eq' bb oo jx]; exact this
theorem own_row {w : World} {B e : Nat} {v : Value} {l : List Lim} (h : w.ownsRow B e 3 v l.length (limCells l)) (hl : l.length ≤ 9223372036854775807) : ∃ o c, v = .slice o l.length c ∧ Row 3 (LimAt w) (.slice o l.length c) l := by
  rcases h.2 with ⟨rfl, h0⟩ | ⟨g, cap, cur, rfl, _⟩
  · obtain rfl : l = [] := List.length_eq_zero_iff.1 h0
    exact ⟨none, 0, rfl, hl, .inl ⟨rfl, none, 0, rfl⟩⟩
  · refine ⟨some ⟨g, 0, none⟩, cap, rfl, hl, .inr ⟨g, 0, cap, rfl, fun i x hi => ?_⟩⟩
    have hc := h.cells (g := g) rfl
    have hg := limCells_get l i x hi
    refine ⟨?_, ?_, ?_⟩
    · rw [addr_eq g (i * 3) (0 + i * 3) rfl]; exact hc _ _ hg.1
    · rw [addr_eq g (i * 3 + 1) (0 + i * 3 + 1) (by omega)]; exact hc _ _ hg.2.1
    · rw [addr_eq g (i * 3 + 2) (0 + i * 3 + 2) (by omega)]; exact hc _ _ hg.2.2
end Rep

theorem limInfo : (Tryz.prog.info? 50).map (fun i => (i.zero, i.size, i.bytes)) = some (some (.agg #[.int .i64 0, .int .i64 0, .bool false]), 3, 24) := by kernel_rfl
theorem pGrow (n : Nat) (h : n ≤ 8192) (w : World) : Calls Tryz.prog 114 #[.slice none 0 0, .int .i64 n] w fun e w' =>
    ∃ v, e = .returned v ∧ w'.ownsRow w.heap.size 50 3 v 0 [] ∧ Below w.heap.size w w' := by
  by_cases h0 : n = 0
  · subst h0
    refine (Any8.slices_Grow_room Tryz.growL none 0 0 0 w (by omega) (by omega) (by omega) (by omega)).mono ?_
    rintro e w' ⟨rfl, rfl⟩
    exact ⟨_, rfl, World.ownsRow_nil _ _ _ _, Below.refl _ _⟩
  · obtain ⟨i0, hi, hz, hs, hby⟩ := info_parts limInfo
    refine (Any8.slices_Grow_grow Tryz.growL i0 _ hi hz (by omega) none 0 0 n [] w (by omega) (by omega) (by rw [hby]; omega) (by omega) (by simp) (fun _ => rfl) (fun a ha => by cases ha)).mono ?_
    rintro e w' ⟨rfl, rfl⟩
    have hge := grownCap_ge w (0 + n) 0 50
    have hle := grownCap_le_maxLen w (0 + n) 0 50 (by unfold maxLen; omega)
    refine ⟨_, rfl, World.ownsRow_made w.drew _ _ (Nat.le_refl _) hle ?_, (Below.refl _ w).drew.alloc (Nat.le_refl _) _⟩
    simp only [Array.size_append, size_zeroCells]
    show 0 + (0 + n - 0) * 3 + (grownCap w (0 + n) 0 50 - (0 + n)) * 3 = grownCap w (0 + n) 0 50 * 3
    omega

set_option maxHeartbeats 2000000 in
theorem pConcat (L3 L4 : List Lim) (o3 o4 : Option Addr) (c3 c4 : Nat) (u : World) (b : Nat) (h3 : Row 3 (LimAt u) (.slice o3 L3.length c3) L3) (h4 : Row 3 (LimAt u) (.slice o4 L4.length c4) L4)
    (z3 : o3 = none → c3 = 0) (z4 : o4 = none → c4 = 0) (k0 : u.cell? ⟨b, 0, none⟩ = some (.slice o3 L3.length c3)) (k1 : u.cell? ⟨b, 1, none⟩ = some (.slice o4 L4.length c4)) (b3 : L3.length ≤ 4096) (b4 : L4.length ≤ 4096) :
    Calls Tryz.prog 81 #[.slice (some ⟨b, 0, none⟩) 2 2] u fun e u' =>
      (∃ o c, e = .returned (.slice o (L3 ++ L4).length c) ∧ Row 3 (LimAt u') (.slice o (L3 ++ L4).length c) (L3 ++ L4)) ∧ Below u.heap.size u u' := by
  have H3 := hideM h3
  have H4 := hideM h4
  clear h3 h4
  generalize hn3 : L3.length = n3 at *
  generalize hn4 : L4.length = n4 at *
  go_enter Tryz.func81, Tryz.ntmps81
  go_wp2_with fail
  go_loopw [3, 11] (fun t i wr => ∃ j : Nat, j ≤ 2 ∧ i = .int .i64 j ∧ t = .int .i64 ((if j = 0 then 0 else if j = 1 then n3 else n3 + n4 : Nat) : Int) ∧ wr = u) (fun _ i _ => 2 - (RowKit.intOf i).toNat)
  case atStart => exact ⟨0, by omega, rfl, rfl, rfl⟩
  case round =>
    obtain ⟨j, hj, rfl, rfl, rfl⟩ := hrel
    rcases (by omega : j = 0 ∨ j = 1 ∨ j = 2) with rfl | rfl | rfl
    · go_wp2
      go_roundw
      case rel => exact ⟨1, by omega, by go_num, by go_num, trivial⟩
      case measure => simp [RowKit.intOf]
    · go_wp2
      go_roundw
      case rel => exact ⟨2, by omega, by go_num, by go_num, trivial⟩
      case measure => simp [RowKit.intOf]
    · go_wp2_with fail
      have HG := hideM (pGrow (n3 + n4) (by omega) wr)
      rw [show (((n3 + n4 : Nat)) : Int) = (n3 : Int) + (n4 : Int) by omega] at HG
      refine HG.out.mono ?_
      rintro e wg ⟨vg, rfl, hown, hbel⟩
      have HO : Hid (wg.ownsRow wr.heap.size 50 3 vg (upto L3 L4 0).length (limCells (upto L3 L4 0))) := hown
      have HB := hideM hbel
      clear HG hown hbel
      obtain ⟨ws, rfl⟩ : ∃ ws, ws = wr := ⟨_, rfl⟩
      go_wp2_with fail
      go_loopw [6, 27] (fun t i wr => ∃ j : Nat, j ≤ 2 ∧ i = .int .i64 j ∧ Hid (wr.ownsRow ws.heap.size 50 3 t (upto L3 L4 j).length (limCells (upto L3 L4 j))) ∧ Hid (Below ws.heap.size ws wr)) (fun _ i _ => 2 - (RowKit.intOf i).toNat)
      case atStart => exact ⟨0, by omega, rfl, HO, HB⟩
      case round =>
        obtain ⟨j, hj, rfl, HOW, HBW⟩ := hrel
        rcases (by omega : j = 0 ∨ j = 1 ∨ j = 2) with rfl | rfl | rfl
        · have q0 : wr.cell? ⟨b, 0, none⟩ = some (.slice o3 n3 c3) := cell_on HBW.out k0
          obtain ⟨i0, hi, hz0, hz1, hz2⟩ := info_parts limInfo
          have hsz := HBW.out.size
          have hul : (upto L3 L4 0).length ≤ 8192 := by show 0 ≤ _; omega
          have hup : Hid (upto L3 L4 1 = upto L3 L4 0 ++ L3) := rfl
          have hnl : Hid (L3.length = n3) := hn3
          have HRW := hideM (H3.out.imp fun _ _ _ _ => LimAt.on HBW.out)
          cases o3 with
          | none =>
            obtain rfl : c3 = 0 := z3 rfl
            have hnil : L3 = [] := row_none HRW.out
            have hn0 : n3 = 0 := by rw [← hnl.out, hnil]; rfl
            rw [hn0] at q0
            go_wp2_with (first | (at_builtin; refine wpList_append_own_none rfl _ _ 25 rfl ws.heap.size 50 i0 3 Tryz.underlying25 hi _ _ _ rfl HOW.out rfl ?_))
            go_wp2
            go_roundw
            case rel => exact ⟨_, _, _, ⟨1, by omega, rfl, HOW⟩, rfl, rfl, rfl⟩
            case measure => simp [RowKit.intOf]
          | some ad =>
            have HAT := hideM (row_at HRW.out)
            go_wp2_with (first | (at_builtin; refine wpList_append_own _ rfl _ _ 25 rfl ws.heap.size 50 i0 _ 3 24 Tryz.underlying25 hi hz0 hz1 hz2 rfl (by decide) _ _ _ rfl HOW.out ad n3 c3 (limCells L3) rfl ?c0 HAT.out ?c2 ?c3 ?c4 ?c5 ?_))
            case c0 => rw [limCells_len, hnl.out]
            case c2 => exact limCells_one L3
            case c3 => unfold maxLen; omega
            case c4 => omega
            case c5 => omega
            intro v' w1 hown' hgrow _
            have HB2 := hideM (below_grown HBW.out HOW.out hgrow (by omega))
            have HO2 : Hid (w1.ownsRow ws.heap.size 50 3 v' (upto L3 L4 1).length (limCells (upto L3 L4 1))) := by
              rw [hup.out, limCells_app, List.length_append, hnl.out]; exact hown'
            clear hown' hgrow
            go_wp2
            go_roundw
            case rel => exact ⟨1, by omega, by go_num, HO2, HB2⟩
            case measure => simp [RowKit.intOf]
        · have q0 : wr.cell? ⟨b, 1, none⟩ = some (.slice o4 n4 c4) := cell_on HBW.out k1
          obtain ⟨i0, hi, hz0, hz1, hz2⟩ := info_parts limInfo
          have hsz := HBW.out.size
          have hul : (upto L3 L4 1).length ≤ 8192 := by show L3.length ≤ _; omega
          have hup : Hid (upto L3 L4 2 = upto L3 L4 1 ++ L4) := rfl
          have hnl : Hid (L4.length = n4) := hn4
          have HRW := hideM (H4.out.imp fun _ _ _ _ => LimAt.on HBW.out)
          cases o4 with
          | none =>
            obtain rfl : c4 = 0 := z4 rfl
            have hnil : L4 = [] := row_none HRW.out
            have hn0 : n4 = 0 := by rw [← hnl.out, hnil]; rfl
            rw [hn0] at q0
            go_wp2_with (first | (at_builtin; refine wpList_append_own_none rfl _ _ 25 rfl ws.heap.size 50 i0 3 Tryz.underlying25 hi _ _ _ rfl HOW.out rfl ?_))
            go_wp2
            go_roundw
            case rel => exact ⟨_, _, _, ⟨2, by omega, rfl, by show Hid (World.ownsRow _ _ _ _ _ (L3 ++ []).length (limCells (L3 ++ []))); rw [List.append_nil]; exact HOW⟩, rfl, rfl, rfl⟩
            case measure => simp [RowKit.intOf]
          | some ad =>
            have HAT := hideM (row_at HRW.out)
            go_wp2_with (first | (at_builtin; refine wpList_append_own _ rfl _ _ 25 rfl ws.heap.size 50 i0 _ 3 24 Tryz.underlying25 hi hz0 hz1 hz2 rfl (by decide) _ _ _ rfl HOW.out ad n4 c4 (limCells L4) rfl ?c0 HAT.out ?c2 ?c3 ?c4 ?c5 ?_))
            case c0 => rw [limCells_len, hnl.out]
            case c2 => exact limCells_one L4
            case c3 => unfold maxLen; omega
            case c4 => omega
            case c5 => omega
            intro v' w1 hown' hgrow _
            have HB2 := hideM (below_grown HBW.out HOW.out hgrow (by omega))
            have HO2 : Hid (w1.ownsRow ws.heap.size 50 3 v' (upto L3 L4 2).length (limCells (upto L3 L4 2))) := by
              rw [hup.out, limCells_app, List.length_append, hnl.out]; exact hown'
            clear hown' hgrow
            go_wp2
            go_roundw
            case rel => exact ⟨2, by omega, by go_num, HO2, HB2⟩
            case measure => simp [RowKit.intOf]
        · have hfin := own_row (l := L3 ++ L4) HOW.out (by rw [List.length_append]; omega)
          obtain ⟨of, cf, rfl, hrow⟩ := hfin
          have HRF := hideM hrow
          clear hrow
          go_wp2
          go_ret
          exact ⟨⟨of, cf, rfl, HRF.out⟩, HBW.out⟩
end Go.Proofs.YtloelineidlenaaGreatDoor

namespace Go.Proofs.YtloelineidlenaaGreatDoor
open Go.RowKit Rep
set_option linter.unusedVariables false

namespace Rep
def rkn (op : Int) : Bool := decide ((69 ≤ op ∧ op ≤ 90) ∨ (103 ≤ op ∧ op ≤ 138) ∨ op = 167 ∨ op = 172 ∨ op = 173)
def flt (op : Int) : Bool := decide (op = 42 ∨ op = 43 ∨ op = 56 ∨ op = 57 ∨ op = 67 ∨ op = 68 ∨ (91 ≤ op ∧ op ≤ 102) ∨ (139 ≤ op ∧ op ≤ 166) ∨ (168 ≤ op ∧ op ≤ 171) ∨ (174 ≤ op ∧ op ≤ 191))
end Rep
structure ReckC (I : World → Prop) : Prop where
  keep : ∀ {w w' : World}, Below w.heap.size w w' → I w → I w'
  reckons : ∀ (op : Int) (w : World), I w → Calls Tryz.prog 115 #[.int .i64 op] w fun e w' => e = .returned (.bool (rkn op)) ∧ Below w.heap.size w w'

set_option maxHeartbeats 1000000 in
theorem pfloats0 (op : Int) (w : World) (h : op ≤ 41) : Calls Tryz.prog 116 #[.int .i64 op] w fun e w' => e = .returned (.bool false) ∧ w' = w := by
  have q42 : (op == 42) = false := by rw [beq_eq_false_iff_ne]; omega
  have q43 : (op == 43) = false := by rw [beq_eq_false_iff_ne]; omega
  have q56 : (op == 56) = false := by rw [beq_eq_false_iff_ne]; omega
  have q57 : (op == 57) = false := by rw [beq_eq_false_iff_ne]; omega
  have q67 : (op == 67) = false := by rw [beq_eq_false_iff_ne]; omega
  have q68 : (op == 68) = false := by rw [beq_eq_false_iff_ne]; omega
  have a91 : decide ((91 : Int) ≤ op) = false := decide_eq_false (by omega)
  have a139 : decide ((139 : Int) ≤ op) = false := decide_eq_false (by omega)
  have a168 : decide ((168 : Int) ≤ op) = false := decide_eq_false (by omega)
  have a174 : decide ((174 : Int) ≤ op) = false := decide_eq_false (by omega)
  clear h
  go_enter Tryz.func116, Tryz.ntmps116
  go_wp2
  go_ret
  exact ⟨rfl, rfl⟩
set_option maxHeartbeats 1000000 in
theorem pfloats1 (op : Int) (w : World) (h : 42 ≤ op ∧ op ≤ 42) : Calls Tryz.prog 116 #[.int .i64 op] w fun e w' => e = .returned (.bool true) ∧ w' = w := by
  obtain rfl : op = 42 := by omega
  clear h
  go_enter Tryz.func116, Tryz.ntmps116
  go_wp2
  go_ret
  exact ⟨rfl, rfl⟩
set_option maxHeartbeats 1000000 in
theorem pfloats2 (op : Int) (w : World) (h : 43 ≤ op ∧ op ≤ 43) : Calls Tryz.prog 116 #[.int .i64 op] w fun e w' => e = .returned (.bool true) ∧ w' = w := by
  obtain rfl : op = 43 := by omega
  clear h
  go_enter Tryz.func116, Tryz.ntmps116
  go_wp2
  go_ret
  exact ⟨rfl, rfl⟩
set_option maxHeartbeats 1000000 in
theorem pfloats3 (op : Int) (w : World) (h : 44 ≤ op ∧ op ≤ 55) : Calls Tryz.prog 116 #[.int .i64 op] w fun e w' => e = .returned (.bool false) ∧ w' = w := by
  have q42 : (op == 42) = false := by rw [beq_eq_false_iff_ne]; omega
  have q43 : (op == 43) = false := by rw [beq_eq_false_iff_ne]; omega
  have q56 : (op == 56) = false := by rw [beq_eq_false_iff_ne]; omega
  have q57 : (op == 57) = false := by rw [beq_eq_false_iff_ne]; omega
  have q67 : (op == 67) = false := by rw [beq_eq_false_iff_ne]; omega
  have q68 : (op == 68) = false := by rw [beq_eq_false_iff_ne]; omega
  have a91 : decide ((91 : Int) ≤ op) = false := decide_eq_false (by omega)
  have a139 : decide ((139 : Int) ≤ op) = false := decide_eq_false (by omega)
  have a168 : decide ((168 : Int) ≤ op) = false := decide_eq_false (by omega)
  have a174 : decide ((174 : Int) ≤ op) = false := decide_eq_false (by omega)
  clear h
  go_enter Tryz.func116, Tryz.ntmps116
  go_wp2
  go_ret
  exact ⟨rfl, rfl⟩
set_option maxHeartbeats 1000000 in
theorem pfloats4 (op : Int) (w : World) (h : 56 ≤ op ∧ op ≤ 56) : Calls Tryz.prog 116 #[.int .i64 op] w fun e w' => e = .returned (.bool true) ∧ w' = w := by
  obtain rfl : op = 56 := by omega
  clear h
  go_enter Tryz.func116, Tryz.ntmps116
  go_wp2
  go_ret
  exact ⟨rfl, rfl⟩
set_option maxHeartbeats 1000000 in
theorem pfloats5 (op : Int) (w : World) (h : 57 ≤ op ∧ op ≤ 57) : Calls Tryz.prog 116 #[.int .i64 op] w fun e w' => e = .returned (.bool true) ∧ w' = w := by
  obtain rfl : op = 57 := by omega
  clear h
  go_enter Tryz.func116, Tryz.ntmps116
  go_wp2
  go_ret
  exact ⟨rfl, rfl⟩
set_option maxHeartbeats 1000000 in
theorem pfloats6 (op : Int) (w : World) (h : 58 ≤ op ∧ op ≤ 66) : Calls Tryz.prog 116 #[.int .i64 op] w fun e w' => e = .returned (.bool false) ∧ w' = w := by
  have q42 : (op == 42) = false := by rw [beq_eq_false_iff_ne]; omega
  have q43 : (op == 43) = false := by rw [beq_eq_false_iff_ne]; omega
  have q56 : (op == 56) = false := by rw [beq_eq_false_iff_ne]; omega
  have q57 : (op == 57) = false := by rw [beq_eq_false_iff_ne]; omega
  have q67 : (op == 67) = false := by rw [beq_eq_false_iff_ne]; omega
  have q68 : (op == 68) = false := by rw [beq_eq_false_iff_ne]; omega
  have a91 : decide ((91 : Int) ≤ op) = false := decide_eq_false (by omega)
  have a139 : decide ((139 : Int) ≤ op) = false := decide_eq_false (by omega)
  have a168 : decide ((168 : Int) ≤ op) = false := decide_eq_false (by omega)
  have a174 : decide ((174 : Int) ≤ op) = false := decide_eq_false (by omega)
  clear h
  go_enter Tryz.func116, Tryz.ntmps116
  go_wp2
  go_ret
  exact ⟨rfl, rfl⟩
set_option maxHeartbeats 1000000 in
theorem pfloats7 (op : Int) (w : World) (h : 67 ≤ op ∧ op ≤ 67) : Calls Tryz.prog 116 #[.int .i64 op] w fun e w' => e = .returned (.bool true) ∧ w' = w := by
  obtain rfl : op = 67 := by omega
  clear h
  go_enter Tryz.func116, Tryz.ntmps116
  go_wp2
  go_ret
  exact ⟨rfl, rfl⟩
set_option maxHeartbeats 1000000 in
theorem pfloats8 (op : Int) (w : World) (h : 68 ≤ op ∧ op ≤ 68) : Calls Tryz.prog 116 #[.int .i64 op] w fun e w' => e = .returned (.bool true) ∧ w' = w := by
  obtain rfl : op = 68 := by omega
  clear h
  go_enter Tryz.func116, Tryz.ntmps116
  go_wp2
  go_ret
  exact ⟨rfl, rfl⟩
set_option maxHeartbeats 1000000 in
theorem pfloats9 (op : Int) (w : World) (h : 69 ≤ op ∧ op ≤ 90) : Calls Tryz.prog 116 #[.int .i64 op] w fun e w' => e = .returned (.bool false) ∧ w' = w := by
  have q42 : (op == 42) = false := by rw [beq_eq_false_iff_ne]; omega
  have q43 : (op == 43) = false := by rw [beq_eq_false_iff_ne]; omega
  have q56 : (op == 56) = false := by rw [beq_eq_false_iff_ne]; omega
  have q57 : (op == 57) = false := by rw [beq_eq_false_iff_ne]; omega
  have q67 : (op == 67) = false := by rw [beq_eq_false_iff_ne]; omega
  have q68 : (op == 68) = false := by rw [beq_eq_false_iff_ne]; omega
  have a91 : decide ((91 : Int) ≤ op) = false := decide_eq_false (by omega)
  have a139 : decide ((139 : Int) ≤ op) = false := decide_eq_false (by omega)
  have a168 : decide ((168 : Int) ≤ op) = false := decide_eq_false (by omega)
  have a174 : decide ((174 : Int) ≤ op) = false := decide_eq_false (by omega)
  clear h
  go_enter Tryz.func116, Tryz.ntmps116
  go_wp2
  go_ret
  exact ⟨rfl, rfl⟩
set_option maxHeartbeats 1000000 in
theorem pfloats10 (op : Int) (w : World) (h : 91 ≤ op ∧ op ≤ 102) : Calls Tryz.prog 116 #[.int .i64 op] w fun e w' => e = .returned (.bool true) ∧ w' = w := by
  have q42 : (op == 42) = false := by rw [beq_eq_false_iff_ne]; omega
  have q43 : (op == 43) = false := by rw [beq_eq_false_iff_ne]; omega
  have q56 : (op == 56) = false := by rw [beq_eq_false_iff_ne]; omega
  have q57 : (op == 57) = false := by rw [beq_eq_false_iff_ne]; omega
  have q67 : (op == 67) = false := by rw [beq_eq_false_iff_ne]; omega
  have q68 : (op == 68) = false := by rw [beq_eq_false_iff_ne]; omega
  have a91 : decide ((91 : Int) ≤ op) = true := decide_eq_true (by omega)
  have b102 : decide (op ≤ (102 : Int)) = true := decide_eq_true (by omega)
  have a139 : decide ((139 : Int) ≤ op) = false := decide_eq_false (by omega)
  have a168 : decide ((168 : Int) ≤ op) = false := decide_eq_false (by omega)
  have a174 : decide ((174 : Int) ≤ op) = false := decide_eq_false (by omega)
  clear h
  go_enter Tryz.func116, Tryz.ntmps116
  go_wp2
  go_ret
  exact ⟨rfl, rfl⟩
set_option maxHeartbeats 1000000 in
theorem pfloats11 (op : Int) (w : World) (h : 103 ≤ op ∧ op ≤ 138) : Calls Tryz.prog 116 #[.int .i64 op] w fun e w' => e = .returned (.bool false) ∧ w' = w := by
  have q42 : (op == 42) = false := by rw [beq_eq_false_iff_ne]; omega
  have q43 : (op == 43) = false := by rw [beq_eq_false_iff_ne]; omega
  have q56 : (op == 56) = false := by rw [beq_eq_false_iff_ne]; omega
  have q57 : (op == 57) = false := by rw [beq_eq_false_iff_ne]; omega
  have q67 : (op == 67) = false := by rw [beq_eq_false_iff_ne]; omega
  have q68 : (op == 68) = false := by rw [beq_eq_false_iff_ne]; omega
  have a91 : decide ((91 : Int) ≤ op) = true := decide_eq_true (by omega)
  have b102 : decide (op ≤ (102 : Int)) = false := decide_eq_false (by omega)
  have a139 : decide ((139 : Int) ≤ op) = false := decide_eq_false (by omega)
  have a168 : decide ((168 : Int) ≤ op) = false := decide_eq_false (by omega)
  have a174 : decide ((174 : Int) ≤ op) = false := decide_eq_false (by omega)
  clear h
  go_enter Tryz.func116, Tryz.ntmps116
  go_wp2
  go_ret
  exact ⟨rfl, rfl⟩
set_option maxHeartbeats 1000000 in
theorem pfloats12 (op : Int) (w : World) (h : 139 ≤ op ∧ op ≤ 166) : Calls Tryz.prog 116 #[.int .i64 op] w fun e w' => e = .returned (.bool true) ∧ w' = w := by
  have q42 : (op == 42) = false := by rw [beq_eq_false_iff_ne]; omega
  have q43 : (op == 43) = false := by rw [beq_eq_false_iff_ne]; omega
  have q56 : (op == 56) = false := by rw [beq_eq_false_iff_ne]; omega
  have q57 : (op == 57) = false := by rw [beq_eq_false_iff_ne]; omega
  have q67 : (op == 67) = false := by rw [beq_eq_false_iff_ne]; omega
  have q68 : (op == 68) = false := by rw [beq_eq_false_iff_ne]; omega
  have a91 : decide ((91 : Int) ≤ op) = true := decide_eq_true (by omega)
  have b102 : decide (op ≤ (102 : Int)) = false := decide_eq_false (by omega)
  have a139 : decide ((139 : Int) ≤ op) = true := decide_eq_true (by omega)
  have b166 : decide (op ≤ (166 : Int)) = true := decide_eq_true (by omega)
  have a168 : decide ((168 : Int) ≤ op) = false := decide_eq_false (by omega)
  have a174 : decide ((174 : Int) ≤ op) = false := decide_eq_false (by omega)
  clear h
  go_enter Tryz.func116, Tryz.ntmps116
  go_wp2
  go_ret
  exact ⟨rfl, rfl⟩
set_option maxHeartbeats 1000000 in
theorem pfloats13 (op : Int) (w : World) (h : 167 ≤ op ∧ op ≤ 167) : Calls Tryz.prog 116 #[.int .i64 op] w fun e w' => e = .returned (.bool false) ∧ w' = w := by
  obtain rfl : op = 167 := by omega
  clear h
  go_enter Tryz.func116, Tryz.ntmps116
  go_wp2
  go_ret
  exact ⟨rfl, rfl⟩
set_option maxHeartbeats 1000000 in
theorem pfloats14 (op : Int) (w : World) (h : 168 ≤ op ∧ op ≤ 171) : Calls Tryz.prog 116 #[.int .i64 op] w fun e w' => e = .returned (.bool true) ∧ w' = w := by
  have q42 : (op == 42) = false := by rw [beq_eq_false_iff_ne]; omega
  have q43 : (op == 43) = false := by rw [beq_eq_false_iff_ne]; omega
  have q56 : (op == 56) = false := by rw [beq_eq_false_iff_ne]; omega
  have q57 : (op == 57) = false := by rw [beq_eq_false_iff_ne]; omega
  have q67 : (op == 67) = false := by rw [beq_eq_false_iff_ne]; omega
  have q68 : (op == 68) = false := by rw [beq_eq_false_iff_ne]; omega
  have a91 : decide ((91 : Int) ≤ op) = true := decide_eq_true (by omega)
  have b102 : decide (op ≤ (102 : Int)) = false := decide_eq_false (by omega)
  have a139 : decide ((139 : Int) ≤ op) = true := decide_eq_true (by omega)
  have b166 : decide (op ≤ (166 : Int)) = false := decide_eq_false (by omega)
  have a168 : decide ((168 : Int) ≤ op) = true := decide_eq_true (by omega)
  have b171 : decide (op ≤ (171 : Int)) = true := decide_eq_true (by omega)
  have a174 : decide ((174 : Int) ≤ op) = false := decide_eq_false (by omega)
  clear h
  go_enter Tryz.func116, Tryz.ntmps116
  go_wp2
  go_ret
  exact ⟨rfl, rfl⟩
set_option maxHeartbeats 1000000 in
theorem pfloats15 (op : Int) (w : World) (h : 172 ≤ op ∧ op ≤ 173) : Calls Tryz.prog 116 #[.int .i64 op] w fun e w' => e = .returned (.bool false) ∧ w' = w := by
  have q42 : (op == 42) = false := by rw [beq_eq_false_iff_ne]; omega
  have q43 : (op == 43) = false := by rw [beq_eq_false_iff_ne]; omega
  have q56 : (op == 56) = false := by rw [beq_eq_false_iff_ne]; omega
  have q57 : (op == 57) = false := by rw [beq_eq_false_iff_ne]; omega
  have q67 : (op == 67) = false := by rw [beq_eq_false_iff_ne]; omega
  have q68 : (op == 68) = false := by rw [beq_eq_false_iff_ne]; omega
  have a91 : decide ((91 : Int) ≤ op) = true := decide_eq_true (by omega)
  have b102 : decide (op ≤ (102 : Int)) = false := decide_eq_false (by omega)
  have a139 : decide ((139 : Int) ≤ op) = true := decide_eq_true (by omega)
  have b166 : decide (op ≤ (166 : Int)) = false := decide_eq_false (by omega)
  have a168 : decide ((168 : Int) ≤ op) = true := decide_eq_true (by omega)
  have b171 : decide (op ≤ (171 : Int)) = false := decide_eq_false (by omega)
  have a174 : decide ((174 : Int) ≤ op) = false := decide_eq_false (by omega)
  clear h
  go_enter Tryz.func116, Tryz.ntmps116
  go_wp2
  go_ret
  exact ⟨rfl, rfl⟩
set_option maxHeartbeats 1000000 in
theorem pfloats16 (op : Int) (w : World) (h : 174 ≤ op ∧ op ≤ 191) : Calls Tryz.prog 116 #[.int .i64 op] w fun e w' => e = .returned (.bool true) ∧ w' = w := by
  have q42 : (op == 42) = false := by rw [beq_eq_false_iff_ne]; omega
  have q43 : (op == 43) = false := by rw [beq_eq_false_iff_ne]; omega
  have q56 : (op == 56) = false := by rw [beq_eq_false_iff_ne]; omega
  have q57 : (op == 57) = false := by rw [beq_eq_false_iff_ne]; omega
  have q67 : (op == 67) = false := by rw [beq_eq_false_iff_ne]; omega
  have q68 : (op == 68) = false := by rw [beq_eq_false_iff_ne]; omega
  have a91 : decide ((91 : Int) ≤ op) = true := decide_eq_true (by omega)
  have b102 : decide (op ≤ (102 : Int)) = false := decide_eq_false (by omega)
  have a139 : decide ((139 : Int) ≤ op) = true := decide_eq_true (by omega)
  have b166 : decide (op ≤ (166 : Int)) = false := decide_eq_false (by omega)
  have a168 : decide ((168 : Int) ≤ op) = true := decide_eq_true (by omega)
  have b171 : decide (op ≤ (171 : Int)) = false := decide_eq_false (by omega)
  have a174 : decide ((174 : Int) ≤ op) = true := decide_eq_true (by omega)
  have b191 : decide (op ≤ (191 : Int)) = true := decide_eq_true (by omega)
  clear h
  go_enter Tryz.func116, Tryz.ntmps116
  go_wp2
  go_ret
  exact ⟨rfl, rfl⟩
set_option maxHeartbeats 1000000 in
theorem pfloats17 (op : Int) (w : World) (h : 192 ≤ op) : Calls Tryz.prog 116 #[.int .i64 op] w fun e w' => e = .returned (.bool false) ∧ w' = w := by
  have q42 : (op == 42) = false := by rw [beq_eq_false_iff_ne]; omega
  have q43 : (op == 43) = false := by rw [beq_eq_false_iff_ne]; omega
  have q56 : (op == 56) = false := by rw [beq_eq_false_iff_ne]; omega
  have q57 : (op == 57) = false := by rw [beq_eq_false_iff_ne]; omega
  have q67 : (op == 67) = false := by rw [beq_eq_false_iff_ne]; omega
  have q68 : (op == 68) = false := by rw [beq_eq_false_iff_ne]; omega
  have a91 : decide ((91 : Int) ≤ op) = true := decide_eq_true (by omega)
  have b102 : decide (op ≤ (102 : Int)) = false := decide_eq_false (by omega)
  have a139 : decide ((139 : Int) ≤ op) = true := decide_eq_true (by omega)
  have b166 : decide (op ≤ (166 : Int)) = false := decide_eq_false (by omega)
  have a168 : decide ((168 : Int) ≤ op) = true := decide_eq_true (by omega)
  have b171 : decide (op ≤ (171 : Int)) = false := decide_eq_false (by omega)
  have a174 : decide ((174 : Int) ≤ op) = true := decide_eq_true (by omega)
  have b191 : decide (op ≤ (191 : Int)) = false := decide_eq_false (by omega)
  clear h
  go_enter Tryz.func116, Tryz.ntmps116
  go_wp2
  go_ret
  exact ⟨rfl, rfl⟩
theorem pfloats (op : Int) (w : World) : Calls Tryz.prog 116 #[.int .i64 op] w fun e w' => e = .returned (.bool (flt op)) ∧ w' = w := by
  by_cases c0 : op ≤ 41
  · rw [show flt op = false from decide_eq_false (by omega)]; exact pfloats0 op w (by omega)
  by_cases c1 : op ≤ 42
  · rw [show flt op = true from decide_eq_true (by omega)]; exact pfloats1 op w (by omega)
  by_cases c2 : op ≤ 43
  · rw [show flt op = true from decide_eq_true (by omega)]; exact pfloats2 op w (by omega)
  by_cases c3 : op ≤ 55
  · rw [show flt op = false from decide_eq_false (by omega)]; exact pfloats3 op w (by omega)
  by_cases c4 : op ≤ 56
  · rw [show flt op = true from decide_eq_true (by omega)]; exact pfloats4 op w (by omega)
  by_cases c5 : op ≤ 57
  · rw [show flt op = true from decide_eq_true (by omega)]; exact pfloats5 op w (by omega)
  by_cases c6 : op ≤ 66
  · rw [show flt op = false from decide_eq_false (by omega)]; exact pfloats6 op w (by omega)
  by_cases c7 : op ≤ 67
  · rw [show flt op = true from decide_eq_true (by omega)]; exact pfloats7 op w (by omega)
  by_cases c8 : op ≤ 68
  · rw [show flt op = true from decide_eq_true (by omega)]; exact pfloats8 op w (by omega)
  by_cases c9 : op ≤ 90
  · rw [show flt op = false from decide_eq_false (by omega)]; exact pfloats9 op w (by omega)
  by_cases c10 : op ≤ 102
  · rw [show flt op = true from decide_eq_true (by omega)]; exact pfloats10 op w (by omega)
  by_cases c11 : op ≤ 138
  · rw [show flt op = false from decide_eq_false (by omega)]; exact pfloats11 op w (by omega)
  by_cases c12 : op ≤ 166
  · rw [show flt op = true from decide_eq_true (by omega)]; exact pfloats12 op w (by omega)
  by_cases c13 : op ≤ 167
  · rw [show flt op = false from decide_eq_false (by omega)]; exact pfloats13 op w (by omega)
  by_cases c14 : op ≤ 171
  · rw [show flt op = true from decide_eq_true (by omega)]; exact pfloats14 op w (by omega)
  by_cases c15 : op ≤ 173
  · rw [show flt op = false from decide_eq_false (by omega)]; exact pfloats15 op w (by omega)
  by_cases c16 : op ≤ 191
  · rw [show flt op = true from decide_eq_true (by omega)]; exact pfloats16 op w (by omega)
  rw [show flt op = false from decide_eq_false (by omega)]; exact pfloats17 op w (by omega)
end Go.Proofs.YtloelineidlenaaGreatDoor

namespace Go.Proofs.YtloelineidlenaaGreatDoor
open Go.RowKit Rep
set_option linter.unusedVariables false

set_option maxHeartbeats 1000000 in
theorem pForm0 {I : World → Prop} (C : ReckC I) (op : Int) (w : World) (h : op ≤ -1) (hI : I w) : Calls Tryz.prog 83 #[.int .i64 op] w fun e w' => e = .returned (.int .i64 0) ∧ Below w.heap.size w w' := by
  have hp : rkn op = false := decide_eq_false (by omega)
  have hfl : flt op = false := decide_eq_false (by omega)
  have HI := hideM hI
  clear hI
  have q0 : (op == 0) = false := by rw [beq_eq_false_iff_ne]; omega
  have q1 : (op == 1) = false := by rw [beq_eq_false_iff_ne]; omega
  have q15 : (op == 15) = false := by rw [beq_eq_false_iff_ne]; omega
  have q26 : (op == 26) = false := by rw [beq_eq_false_iff_ne]; omega
  have q27 : (op == 27) = false := by rw [beq_eq_false_iff_ne]; omega
  have q63 : (op == 63) = false := by rw [beq_eq_false_iff_ne]; omega
  have q64 : (op == 64) = false := by rw [beq_eq_false_iff_ne]; omega
  have q2 : (op == 2) = false := by rw [beq_eq_false_iff_ne]; omega
  have q3 : (op == 3) = false := by rw [beq_eq_false_iff_ne]; omega
  have q4 : (op == 4) = false := by rw [beq_eq_false_iff_ne]; omega
  have q12 : (op == 12) = false := by rw [beq_eq_false_iff_ne]; omega
  have q13 : (op == 13) = false := by rw [beq_eq_false_iff_ne]; omega
  have q14 : (op == 14) = false := by rw [beq_eq_false_iff_ne]; omega
  have q16 : (op == 16) = false := by rw [beq_eq_false_iff_ne]; omega
  have q17 : (op == 17) = false := by rw [beq_eq_false_iff_ne]; omega
  have q40 : (op == 40) = false := by rw [beq_eq_false_iff_ne]; omega
  have q41 : (op == 41) = false := by rw [beq_eq_false_iff_ne]; omega
  have q65 : (op == 65) = false := by rw [beq_eq_false_iff_ne]; omega
  have q66 : (op == 66) = false := by rw [beq_eq_false_iff_ne]; omega
  have a32 : decide ((32 : Int) ≤ op) = false := decide_eq_false (by omega)
  have a44 : decide ((44 : Int) ≤ op) = false := decide_eq_false (by omega)
  have a58 : decide ((58 : Int) ≤ op) = false := decide_eq_false (by omega)
  clear h
  go_enter Tryz.func83, Tryz.ntmps83
  go_wp2_with fail
  refine (C.reckons _ _ HI.out).mono ?_
  rintro e u ⟨rfl, hb⟩
  have HB := hideM hb
  clear hb
  rw [hp]
  go_wp2_with fail
  refine (pfloats _ _).mono ?_
  rintro e u ⟨rfl, rfl⟩
  rw [hfl]
  go_wp2
  go_ret
  exact ⟨rfl, HB.out⟩

set_option maxHeartbeats 1000000 in
theorem pForm1 {I : World → Prop} (C : ReckC I) (op : Int) (w : World) (h : 0 ≤ op ∧ op ≤ 0) (hI : I w) : Calls Tryz.prog 83 #[.int .i64 op] w fun e w' => e = .returned (.int .i64 1) ∧ Below w.heap.size w w' := by
  have hp : rkn op = false := decide_eq_false (by omega)
  have hfl : flt op = false := decide_eq_false (by omega)
  have HI := hideM hI
  clear hI
  obtain rfl : op = 0 := by omega
  clear h
  go_enter Tryz.func83, Tryz.ntmps83
  go_wp2
  go_ret
  exact ⟨rfl, Below.refl _ _⟩

set_option maxHeartbeats 1000000 in
theorem pForm2 {I : World → Prop} (C : ReckC I) (op : Int) (w : World) (h : 1 ≤ op ∧ op ≤ 1) (hI : I w) : Calls Tryz.prog 83 #[.int .i64 op] w fun e w' => e = .returned (.int .i64 1) ∧ Below w.heap.size w w' := by
  have hp : rkn op = false := decide_eq_false (by omega)
  have hfl : flt op = false := decide_eq_false (by omega)
  have HI := hideM hI
  clear hI
  obtain rfl : op = 1 := by omega
  clear h
  go_enter Tryz.func83, Tryz.ntmps83
  go_wp2
  go_ret
  exact ⟨rfl, Below.refl _ _⟩

set_option maxHeartbeats 1000000 in
theorem pForm3 {I : World → Prop} (C : ReckC I) (op : Int) (w : World) (h : 2 ≤ op ∧ op ≤ 2) (hI : I w) : Calls Tryz.prog 83 #[.int .i64 op] w fun e w' => e = .returned (.int .i64 2) ∧ Below w.heap.size w w' := by
  have hp : rkn op = false := decide_eq_false (by omega)
  have hfl : flt op = false := decide_eq_false (by omega)
  have HI := hideM hI
  clear hI
  obtain rfl : op = 2 := by omega
  clear h
  go_enter Tryz.func83, Tryz.ntmps83
  go_wp2_with fail
  refine (C.reckons _ _ HI.out).mono ?_
  rintro e u ⟨rfl, hb⟩
  have HB := hideM hb
  clear hb
  rw [hp]
  go_wp2
  go_ret
  exact ⟨rfl, HB.out⟩

set_option maxHeartbeats 1000000 in
theorem pForm4 {I : World → Prop} (C : ReckC I) (op : Int) (w : World) (h : 3 ≤ op ∧ op ≤ 3) (hI : I w) : Calls Tryz.prog 83 #[.int .i64 op] w fun e w' => e = .returned (.int .i64 2) ∧ Below w.heap.size w w' := by
  have hp : rkn op = false := decide_eq_false (by omega)
  have hfl : flt op = false := decide_eq_false (by omega)
  have HI := hideM hI
  clear hI
  obtain rfl : op = 3 := by omega
  clear h
  go_enter Tryz.func83, Tryz.ntmps83
  go_wp2_with fail
  refine (C.reckons _ _ HI.out).mono ?_
  rintro e u ⟨rfl, hb⟩
  have HB := hideM hb
  clear hb
  rw [hp]
  go_wp2
  go_ret
  exact ⟨rfl, HB.out⟩

set_option maxHeartbeats 1000000 in
theorem pForm5 {I : World → Prop} (C : ReckC I) (op : Int) (w : World) (h : 4 ≤ op ∧ op ≤ 4) (hI : I w) : Calls Tryz.prog 83 #[.int .i64 op] w fun e w' => e = .returned (.int .i64 3) ∧ Below w.heap.size w w' := by
  have hp : rkn op = false := decide_eq_false (by omega)
  have hfl : flt op = false := decide_eq_false (by omega)
  have HI := hideM hI
  clear hI
  obtain rfl : op = 4 := by omega
  clear h
  go_enter Tryz.func83, Tryz.ntmps83
  go_wp2_with fail
  refine (C.reckons _ _ HI.out).mono ?_
  rintro e u ⟨rfl, hb⟩
  have HB := hideM hb
  clear hb
  rw [hp]
  go_wp2
  go_ret
  exact ⟨rfl, HB.out⟩

set_option maxHeartbeats 1000000 in
theorem pForm6 {I : World → Prop} (C : ReckC I) (op : Int) (w : World) (h : 5 ≤ op ∧ op ≤ 11) (hI : I w) : Calls Tryz.prog 83 #[.int .i64 op] w fun e w' => e = .returned (.int .i64 0) ∧ Below w.heap.size w w' := by
  have hp : rkn op = false := decide_eq_false (by omega)
  have hfl : flt op = false := decide_eq_false (by omega)
  have HI := hideM hI
  clear hI
  have q0 : (op == 0) = false := by rw [beq_eq_false_iff_ne]; omega
  have q1 : (op == 1) = false := by rw [beq_eq_false_iff_ne]; omega
  have q15 : (op == 15) = false := by rw [beq_eq_false_iff_ne]; omega
  have q26 : (op == 26) = false := by rw [beq_eq_false_iff_ne]; omega
  have q27 : (op == 27) = false := by rw [beq_eq_false_iff_ne]; omega
  have q63 : (op == 63) = false := by rw [beq_eq_false_iff_ne]; omega
  have q64 : (op == 64) = false := by rw [beq_eq_false_iff_ne]; omega
  have q2 : (op == 2) = false := by rw [beq_eq_false_iff_ne]; omega
  have q3 : (op == 3) = false := by rw [beq_eq_false_iff_ne]; omega
  have q4 : (op == 4) = false := by rw [beq_eq_false_iff_ne]; omega
  have q12 : (op == 12) = false := by rw [beq_eq_false_iff_ne]; omega
  have q13 : (op == 13) = false := by rw [beq_eq_false_iff_ne]; omega
  have q14 : (op == 14) = false := by rw [beq_eq_false_iff_ne]; omega
  have q16 : (op == 16) = false := by rw [beq_eq_false_iff_ne]; omega
  have q17 : (op == 17) = false := by rw [beq_eq_false_iff_ne]; omega
  have q40 : (op == 40) = false := by rw [beq_eq_false_iff_ne]; omega
  have q41 : (op == 41) = false := by rw [beq_eq_false_iff_ne]; omega
  have q65 : (op == 65) = false := by rw [beq_eq_false_iff_ne]; omega
  have q66 : (op == 66) = false := by rw [beq_eq_false_iff_ne]; omega
  have a32 : decide ((32 : Int) ≤ op) = false := decide_eq_false (by omega)
  have a44 : decide ((44 : Int) ≤ op) = false := decide_eq_false (by omega)
  have a58 : decide ((58 : Int) ≤ op) = false := decide_eq_false (by omega)
  clear h
  go_enter Tryz.func83, Tryz.ntmps83
  go_wp2_with fail
  refine (C.reckons _ _ HI.out).mono ?_
  rintro e u ⟨rfl, hb⟩
  have HB := hideM hb
  clear hb
  rw [hp]
  go_wp2_with fail
  refine (pfloats _ _).mono ?_
  rintro e u ⟨rfl, rfl⟩
  rw [hfl]
  go_wp2
  go_ret
  exact ⟨rfl, HB.out⟩

set_option maxHeartbeats 1000000 in
theorem pForm7 {I : World → Prop} (C : ReckC I) (op : Int) (w : World) (h : 12 ≤ op ∧ op ≤ 12) (hI : I w) : Calls Tryz.prog 83 #[.int .i64 op] w fun e w' => e = .returned (.int .i64 4) ∧ Below w.heap.size w w' := by
  have hp : rkn op = false := decide_eq_false (by omega)
  have hfl : flt op = false := decide_eq_false (by omega)
  have HI := hideM hI
  clear hI
  obtain rfl : op = 12 := by omega
  clear h
  go_enter Tryz.func83, Tryz.ntmps83
  go_wp2_with fail
  refine (C.reckons _ _ HI.out).mono ?_
  rintro e u ⟨rfl, hb⟩
  have HB := hideM hb
  clear hb
  rw [hp]
  go_wp2
  go_ret
  exact ⟨rfl, HB.out⟩

set_option maxHeartbeats 1000000 in
theorem pForm8 {I : World → Prop} (C : ReckC I) (op : Int) (w : World) (h : 13 ≤ op ∧ op ≤ 13) (hI : I w) : Calls Tryz.prog 83 #[.int .i64 op] w fun e w' => e = .returned (.int .i64 4) ∧ Below w.heap.size w w' := by
  have hp : rkn op = false := decide_eq_false (by omega)
  have hfl : flt op = false := decide_eq_false (by omega)
  have HI := hideM hI
  clear hI
  obtain rfl : op = 13 := by omega
  clear h
  go_enter Tryz.func83, Tryz.ntmps83
  go_wp2_with fail
  refine (C.reckons _ _ HI.out).mono ?_
  rintro e u ⟨rfl, hb⟩
  have HB := hideM hb
  clear hb
  rw [hp]
  go_wp2
  go_ret
  exact ⟨rfl, HB.out⟩

set_option maxHeartbeats 1000000 in
theorem pForm9 {I : World → Prop} (C : ReckC I) (op : Int) (w : World) (h : 14 ≤ op ∧ op ≤ 14) (hI : I w) : Calls Tryz.prog 83 #[.int .i64 op] w fun e w' => e = .returned (.int .i64 5) ∧ Below w.heap.size w w' := by
  have hp : rkn op = false := decide_eq_false (by omega)
  have hfl : flt op = false := decide_eq_false (by omega)
  have HI := hideM hI
  clear hI
  obtain rfl : op = 14 := by omega
  clear h
  go_enter Tryz.func83, Tryz.ntmps83
  go_wp2_with fail
  refine (C.reckons _ _ HI.out).mono ?_
  rintro e u ⟨rfl, hb⟩
  have HB := hideM hb
  clear hb
  rw [hp]
  go_wp2
  go_ret
  exact ⟨rfl, HB.out⟩

set_option maxHeartbeats 1000000 in
theorem pForm10 {I : World → Prop} (C : ReckC I) (op : Int) (w : World) (h : 15 ≤ op ∧ op ≤ 15) (hI : I w) : Calls Tryz.prog 83 #[.int .i64 op] w fun e w' => e = .returned (.int .i64 1) ∧ Below w.heap.size w w' := by
  have hp : rkn op = false := decide_eq_false (by omega)
  have hfl : flt op = false := decide_eq_false (by omega)
  have HI := hideM hI
  clear hI
  obtain rfl : op = 15 := by omega
  clear h
  go_enter Tryz.func83, Tryz.ntmps83
  go_wp2
  go_ret
  exact ⟨rfl, Below.refl _ _⟩

set_option maxHeartbeats 1000000 in
theorem pForm11 {I : World → Prop} (C : ReckC I) (op : Int) (w : World) (h : 16 ≤ op ∧ op ≤ 16) (hI : I w) : Calls Tryz.prog 83 #[.int .i64 op] w fun e w' => e = .returned (.int .i64 6) ∧ Below w.heap.size w w' := by
  have hp : rkn op = false := decide_eq_false (by omega)
  have hfl : flt op = false := decide_eq_false (by omega)
  have HI := hideM hI
  clear hI
  obtain rfl : op = 16 := by omega
  clear h
  go_enter Tryz.func83, Tryz.ntmps83
  go_wp2_with fail
  refine (C.reckons _ _ HI.out).mono ?_
  rintro e u ⟨rfl, hb⟩
  have HB := hideM hb
  clear hb
  rw [hp]
  go_wp2
  go_ret
  exact ⟨rfl, HB.out⟩

set_option maxHeartbeats 1000000 in
theorem pForm12 {I : World → Prop} (C : ReckC I) (op : Int) (w : World) (h : 17 ≤ op ∧ op ≤ 17) (hI : I w) : Calls Tryz.prog 83 #[.int .i64 op] w fun e w' => e = .returned (.int .i64 7) ∧ Below w.heap.size w w' := by
  have hp : rkn op = false := decide_eq_false (by omega)
  have hfl : flt op = false := decide_eq_false (by omega)
  have HI := hideM hI
  clear hI
  obtain rfl : op = 17 := by omega
  clear h
  go_enter Tryz.func83, Tryz.ntmps83
  go_wp2_with fail
  refine (C.reckons _ _ HI.out).mono ?_
  rintro e u ⟨rfl, hb⟩
  have HB := hideM hb
  clear hb
  rw [hp]
  go_wp2
  go_ret
  exact ⟨rfl, HB.out⟩

set_option maxHeartbeats 1000000 in
theorem pForm13 {I : World → Prop} (C : ReckC I) (op : Int) (w : World) (h : 18 ≤ op ∧ op ≤ 25) (hI : I w) : Calls Tryz.prog 83 #[.int .i64 op] w fun e w' => e = .returned (.int .i64 0) ∧ Below w.heap.size w w' := by
  have hp : rkn op = false := decide_eq_false (by omega)
  have hfl : flt op = false := decide_eq_false (by omega)
  have HI := hideM hI
  clear hI
  have q0 : (op == 0) = false := by rw [beq_eq_false_iff_ne]; omega
  have q1 : (op == 1) = false := by rw [beq_eq_false_iff_ne]; omega
  have q15 : (op == 15) = false := by rw [beq_eq_false_iff_ne]; omega
  have q26 : (op == 26) = false := by rw [beq_eq_false_iff_ne]; omega
  have q27 : (op == 27) = false := by rw [beq_eq_false_iff_ne]; omega
  have q63 : (op == 63) = false := by rw [beq_eq_false_iff_ne]; omega
  have q64 : (op == 64) = false := by rw [beq_eq_false_iff_ne]; omega
  have q2 : (op == 2) = false := by rw [beq_eq_false_iff_ne]; omega
  have q3 : (op == 3) = false := by rw [beq_eq_false_iff_ne]; omega
  have q4 : (op == 4) = false := by rw [beq_eq_false_iff_ne]; omega
  have q12 : (op == 12) = false := by rw [beq_eq_false_iff_ne]; omega
  have q13 : (op == 13) = false := by rw [beq_eq_false_iff_ne]; omega
  have q14 : (op == 14) = false := by rw [beq_eq_false_iff_ne]; omega
  have q16 : (op == 16) = false := by rw [beq_eq_false_iff_ne]; omega
  have q17 : (op == 17) = false := by rw [beq_eq_false_iff_ne]; omega
  have q40 : (op == 40) = false := by rw [beq_eq_false_iff_ne]; omega
  have q41 : (op == 41) = false := by rw [beq_eq_false_iff_ne]; omega
  have q65 : (op == 65) = false := by rw [beq_eq_false_iff_ne]; omega
  have q66 : (op == 66) = false := by rw [beq_eq_false_iff_ne]; omega
  have a32 : decide ((32 : Int) ≤ op) = false := decide_eq_false (by omega)
  have a44 : decide ((44 : Int) ≤ op) = false := decide_eq_false (by omega)
  have a58 : decide ((58 : Int) ≤ op) = false := decide_eq_false (by omega)
  clear h
  go_enter Tryz.func83, Tryz.ntmps83
  go_wp2_with fail
  refine (C.reckons _ _ HI.out).mono ?_
  rintro e u ⟨rfl, hb⟩
  have HB := hideM hb
  clear hb
  rw [hp]
  go_wp2_with fail
  refine (pfloats _ _).mono ?_
  rintro e u ⟨rfl, rfl⟩
  rw [hfl]
  go_wp2
  go_ret
  exact ⟨rfl, HB.out⟩

end Go.Proofs.YtloelineidlenaaGreatDoor

namespace Go.Proofs.YtloelineidlenaaGreatDoor
open Go.RowKit Rep
set_option linter.unusedVariables false

set_option maxHeartbeats 1000000 in
theorem pForm14 {I : World → Prop} (C : ReckC I) (op : Int) (w : World) (h : 26 ≤ op ∧ op ≤ 26) (hI : I w) : Calls Tryz.prog 83 #[.int .i64 op] w fun e w' => e = .returned (.int .i64 1) ∧ Below w.heap.size w w' := by
  have hp : rkn op = false := decide_eq_false (by omega)
  have hfl : flt op = false := decide_eq_false (by omega)
  have HI := hideM hI
  clear hI
  obtain rfl : op = 26 := by omega
  clear h
  go_enter Tryz.func83, Tryz.ntmps83
  go_wp2
  go_ret
  exact ⟨rfl, Below.refl _ _⟩

set_option maxHeartbeats 1000000 in
theorem pForm15 {I : World → Prop} (C : ReckC I) (op : Int) (w : World) (h : 27 ≤ op ∧ op ≤ 27) (hI : I w) : Calls Tryz.prog 83 #[.int .i64 op] w fun e w' => e = .returned (.int .i64 1) ∧ Below w.heap.size w w' := by
  have hp : rkn op = false := decide_eq_false (by omega)
  have hfl : flt op = false := decide_eq_false (by omega)
  have HI := hideM hI
  clear hI
  obtain rfl : op = 27 := by omega
  clear h
  go_enter Tryz.func83, Tryz.ntmps83
  go_wp2
  go_ret
  exact ⟨rfl, Below.refl _ _⟩

set_option maxHeartbeats 1000000 in
theorem pForm16 {I : World → Prop} (C : ReckC I) (op : Int) (w : World) (h : 28 ≤ op ∧ op ≤ 31) (hI : I w) : Calls Tryz.prog 83 #[.int .i64 op] w fun e w' => e = .returned (.int .i64 0) ∧ Below w.heap.size w w' := by
  have hp : rkn op = false := decide_eq_false (by omega)
  have hfl : flt op = false := decide_eq_false (by omega)
  have HI := hideM hI
  clear hI
  have q0 : (op == 0) = false := by rw [beq_eq_false_iff_ne]; omega
  have q1 : (op == 1) = false := by rw [beq_eq_false_iff_ne]; omega
  have q15 : (op == 15) = false := by rw [beq_eq_false_iff_ne]; omega
  have q26 : (op == 26) = false := by rw [beq_eq_false_iff_ne]; omega
  have q27 : (op == 27) = false := by rw [beq_eq_false_iff_ne]; omega
  have q63 : (op == 63) = false := by rw [beq_eq_false_iff_ne]; omega
  have q64 : (op == 64) = false := by rw [beq_eq_false_iff_ne]; omega
  have q2 : (op == 2) = false := by rw [beq_eq_false_iff_ne]; omega
  have q3 : (op == 3) = false := by rw [beq_eq_false_iff_ne]; omega
  have q4 : (op == 4) = false := by rw [beq_eq_false_iff_ne]; omega
  have q12 : (op == 12) = false := by rw [beq_eq_false_iff_ne]; omega
  have q13 : (op == 13) = false := by rw [beq_eq_false_iff_ne]; omega
  have q14 : (op == 14) = false := by rw [beq_eq_false_iff_ne]; omega
  have q16 : (op == 16) = false := by rw [beq_eq_false_iff_ne]; omega
  have q17 : (op == 17) = false := by rw [beq_eq_false_iff_ne]; omega
  have q40 : (op == 40) = false := by rw [beq_eq_false_iff_ne]; omega
  have q41 : (op == 41) = false := by rw [beq_eq_false_iff_ne]; omega
  have q65 : (op == 65) = false := by rw [beq_eq_false_iff_ne]; omega
  have q66 : (op == 66) = false := by rw [beq_eq_false_iff_ne]; omega
  have a32 : decide ((32 : Int) ≤ op) = false := decide_eq_false (by omega)
  have a44 : decide ((44 : Int) ≤ op) = false := decide_eq_false (by omega)
  have a58 : decide ((58 : Int) ≤ op) = false := decide_eq_false (by omega)
  clear h
  go_enter Tryz.func83, Tryz.ntmps83
  go_wp2_with fail
  refine (C.reckons _ _ HI.out).mono ?_
  rintro e u ⟨rfl, hb⟩
  have HB := hideM hb
  clear hb
  rw [hp]
  go_wp2_with fail
  refine (pfloats _ _).mono ?_
  rintro e u ⟨rfl, rfl⟩
  rw [hfl]
  go_wp2
  go_ret
  exact ⟨rfl, HB.out⟩

set_option maxHeartbeats 1000000 in
theorem pForm17 {I : World → Prop} (C : ReckC I) (op : Int) (w : World) (h : 32 ≤ op ∧ op ≤ 36) (hI : I w) : Calls Tryz.prog 83 #[.int .i64 op] w fun e w' => e = .returned (.int .i64 6) ∧ Below w.heap.size w w' := by
  have hp : rkn op = false := decide_eq_false (by omega)
  have hfl : flt op = false := decide_eq_false (by omega)
  have HI := hideM hI
  clear hI
  have q0 : (op == 0) = false := by rw [beq_eq_false_iff_ne]; omega
  have q1 : (op == 1) = false := by rw [beq_eq_false_iff_ne]; omega
  have q15 : (op == 15) = false := by rw [beq_eq_false_iff_ne]; omega
  have q26 : (op == 26) = false := by rw [beq_eq_false_iff_ne]; omega
  have q27 : (op == 27) = false := by rw [beq_eq_false_iff_ne]; omega
  have q63 : (op == 63) = false := by rw [beq_eq_false_iff_ne]; omega
  have q64 : (op == 64) = false := by rw [beq_eq_false_iff_ne]; omega
  have q2 : (op == 2) = false := by rw [beq_eq_false_iff_ne]; omega
  have q3 : (op == 3) = false := by rw [beq_eq_false_iff_ne]; omega
  have q4 : (op == 4) = false := by rw [beq_eq_false_iff_ne]; omega
  have q12 : (op == 12) = false := by rw [beq_eq_false_iff_ne]; omega
  have q13 : (op == 13) = false := by rw [beq_eq_false_iff_ne]; omega
  have q14 : (op == 14) = false := by rw [beq_eq_false_iff_ne]; omega
  have q16 : (op == 16) = false := by rw [beq_eq_false_iff_ne]; omega
  have q17 : (op == 17) = false := by rw [beq_eq_false_iff_ne]; omega
  have q40 : (op == 40) = false := by rw [beq_eq_false_iff_ne]; omega
  have q41 : (op == 41) = false := by rw [beq_eq_false_iff_ne]; omega
  have q65 : (op == 65) = false := by rw [beq_eq_false_iff_ne]; omega
  have q66 : (op == 66) = false := by rw [beq_eq_false_iff_ne]; omega
  have a32 : decide ((32 : Int) ≤ op) = true := decide_eq_true (by omega)
  have b36 : decide (op ≤ (36 : Int)) = true := decide_eq_true (by omega)
  have a44 : decide ((44 : Int) ≤ op) = false := decide_eq_false (by omega)
  have a58 : decide ((58 : Int) ≤ op) = false := decide_eq_false (by omega)
  clear h
  go_enter Tryz.func83, Tryz.ntmps83
  go_wp2_with fail
  refine (C.reckons _ _ HI.out).mono ?_
  rintro e u ⟨rfl, hb⟩
  have HB := hideM hb
  clear hb
  rw [hp]
  go_wp2
  go_ret
  exact ⟨rfl, HB.out⟩

set_option maxHeartbeats 1000000 in
theorem pForm18 {I : World → Prop} (C : ReckC I) (op : Int) (w : World) (h : 37 ≤ op ∧ op ≤ 39) (hI : I w) : Calls Tryz.prog 83 #[.int .i64 op] w fun e w' => e = .returned (.int .i64 0) ∧ Below w.heap.size w w' := by
  have hp : rkn op = false := decide_eq_false (by omega)
  have hfl : flt op = false := decide_eq_false (by omega)
  have HI := hideM hI
  clear hI
  have q0 : (op == 0) = false := by rw [beq_eq_false_iff_ne]; omega
  have q1 : (op == 1) = false := by rw [beq_eq_false_iff_ne]; omega
  have q15 : (op == 15) = false := by rw [beq_eq_false_iff_ne]; omega
  have q26 : (op == 26) = false := by rw [beq_eq_false_iff_ne]; omega
  have q27 : (op == 27) = false := by rw [beq_eq_false_iff_ne]; omega
  have q63 : (op == 63) = false := by rw [beq_eq_false_iff_ne]; omega
  have q64 : (op == 64) = false := by rw [beq_eq_false_iff_ne]; omega
  have q2 : (op == 2) = false := by rw [beq_eq_false_iff_ne]; omega
  have q3 : (op == 3) = false := by rw [beq_eq_false_iff_ne]; omega
  have q4 : (op == 4) = false := by rw [beq_eq_false_iff_ne]; omega
  have q12 : (op == 12) = false := by rw [beq_eq_false_iff_ne]; omega
  have q13 : (op == 13) = false := by rw [beq_eq_false_iff_ne]; omega
  have q14 : (op == 14) = false := by rw [beq_eq_false_iff_ne]; omega
  have q16 : (op == 16) = false := by rw [beq_eq_false_iff_ne]; omega
  have q17 : (op == 17) = false := by rw [beq_eq_false_iff_ne]; omega
  have q40 : (op == 40) = false := by rw [beq_eq_false_iff_ne]; omega
  have q41 : (op == 41) = false := by rw [beq_eq_false_iff_ne]; omega
  have q65 : (op == 65) = false := by rw [beq_eq_false_iff_ne]; omega
  have q66 : (op == 66) = false := by rw [beq_eq_false_iff_ne]; omega
  have a32 : decide ((32 : Int) ≤ op) = true := decide_eq_true (by omega)
  have b36 : decide (op ≤ (36 : Int)) = false := decide_eq_false (by omega)
  have a44 : decide ((44 : Int) ≤ op) = false := decide_eq_false (by omega)
  have a58 : decide ((58 : Int) ≤ op) = false := decide_eq_false (by omega)
  clear h
  go_enter Tryz.func83, Tryz.ntmps83
  go_wp2_with fail
  refine (C.reckons _ _ HI.out).mono ?_
  rintro e u ⟨rfl, hb⟩
  have HB := hideM hb
  clear hb
  rw [hp]
  go_wp2_with fail
  refine (pfloats _ _).mono ?_
  rintro e u ⟨rfl, rfl⟩
  rw [hfl]
  go_wp2
  go_ret
  exact ⟨rfl, HB.out⟩

set_option maxHeartbeats 1000000 in
theorem pForm19 {I : World → Prop} (C : ReckC I) (op : Int) (w : World) (h : 40 ≤ op ∧ op ≤ 40) (hI : I w) : Calls Tryz.prog 83 #[.int .i64 op] w fun e w' => e = .returned (.int .i64 8) ∧ Below w.heap.size w w' := by
  have hp : rkn op = false := decide_eq_false (by omega)
  have hfl : flt op = false := decide_eq_false (by omega)
  have HI := hideM hI
  clear hI
  obtain rfl : op = 40 := by omega
  clear h
  go_enter Tryz.func83, Tryz.ntmps83
  go_wp2_with fail
  refine (C.reckons _ _ HI.out).mono ?_
  rintro e u ⟨rfl, hb⟩
  have HB := hideM hb
  clear hb
  rw [hp]
  go_wp2
  go_ret
  exact ⟨rfl, HB.out⟩

set_option maxHeartbeats 1000000 in
theorem pForm20 {I : World → Prop} (C : ReckC I) (op : Int) (w : World) (h : 41 ≤ op ∧ op ≤ 41) (hI : I w) : Calls Tryz.prog 83 #[.int .i64 op] w fun e w' => e = .returned (.int .i64 8) ∧ Below w.heap.size w w' := by
  have hp : rkn op = false := decide_eq_false (by omega)
  have hfl : flt op = false := decide_eq_false (by omega)
  have HI := hideM hI
  clear hI
  obtain rfl : op = 41 := by omega
  clear h
  go_enter Tryz.func83, Tryz.ntmps83
  go_wp2_with fail
  refine (C.reckons _ _ HI.out).mono ?_
  rintro e u ⟨rfl, hb⟩
  have HB := hideM hb
  clear hb
  rw [hp]
  go_wp2
  go_ret
  exact ⟨rfl, HB.out⟩

set_option maxHeartbeats 1000000 in
theorem pForm21 {I : World → Prop} (C : ReckC I) (op : Int) (w : World) (h : 42 ≤ op ∧ op ≤ 42) (hI : I w) : Calls Tryz.prog 83 #[.int .i64 op] w fun e w' => e = .returned (.int .i64 10) ∧ Below w.heap.size w w' := by
  have hp : rkn op = false := decide_eq_false (by omega)
  have hfl : flt op = true := decide_eq_true (by omega)
  have HI := hideM hI
  clear hI
  obtain rfl : op = 42 := by omega
  clear h
  go_enter Tryz.func83, Tryz.ntmps83
  go_wp2_with fail
  refine (C.reckons _ _ HI.out).mono ?_
  rintro e u ⟨rfl, hb⟩
  have HB := hideM hb
  clear hb
  rw [hp]
  go_wp2_with fail
  refine (pfloats _ _).mono ?_
  rintro e u ⟨rfl, rfl⟩
  rw [hfl]
  go_wp2
  go_ret
  exact ⟨rfl, HB.out⟩

set_option maxHeartbeats 1000000 in
theorem pForm22 {I : World → Prop} (C : ReckC I) (op : Int) (w : World) (h : 43 ≤ op ∧ op ≤ 43) (hI : I w) : Calls Tryz.prog 83 #[.int .i64 op] w fun e w' => e = .returned (.int .i64 10) ∧ Below w.heap.size w w' := by
  have hp : rkn op = false := decide_eq_false (by omega)
  have hfl : flt op = true := decide_eq_true (by omega)
  have HI := hideM hI
  clear hI
  obtain rfl : op = 43 := by omega
  clear h
  go_enter Tryz.func83, Tryz.ntmps83
  go_wp2_with fail
  refine (C.reckons _ _ HI.out).mono ?_
  rintro e u ⟨rfl, hb⟩
  have HB := hideM hb
  clear hb
  rw [hp]
  go_wp2_with fail
  refine (pfloats _ _).mono ?_
  rintro e u ⟨rfl, rfl⟩
  rw [hfl]
  go_wp2
  go_ret
  exact ⟨rfl, HB.out⟩

set_option maxHeartbeats 1000000 in
theorem pForm23 {I : World → Prop} (C : ReckC I) (op : Int) (w : World) (h : 44 ≤ op ∧ op ≤ 55) (hI : I w) : Calls Tryz.prog 83 #[.int .i64 op] w fun e w' => e = .returned (.int .i64 8) ∧ Below w.heap.size w w' := by
  have hp : rkn op = false := decide_eq_false (by omega)
  have hfl : flt op = false := decide_eq_false (by omega)
  have HI := hideM hI
  clear hI
  have q0 : (op == 0) = false := by rw [beq_eq_false_iff_ne]; omega
  have q1 : (op == 1) = false := by rw [beq_eq_false_iff_ne]; omega
  have q15 : (op == 15) = false := by rw [beq_eq_false_iff_ne]; omega
  have q26 : (op == 26) = false := by rw [beq_eq_false_iff_ne]; omega
  have q27 : (op == 27) = false := by rw [beq_eq_false_iff_ne]; omega
  have q63 : (op == 63) = false := by rw [beq_eq_false_iff_ne]; omega
  have q64 : (op == 64) = false := by rw [beq_eq_false_iff_ne]; omega
  have q2 : (op == 2) = false := by rw [beq_eq_false_iff_ne]; omega
  have q3 : (op == 3) = false := by rw [beq_eq_false_iff_ne]; omega
  have q4 : (op == 4) = false := by rw [beq_eq_false_iff_ne]; omega
  have q12 : (op == 12) = false := by rw [beq_eq_false_iff_ne]; omega
  have q13 : (op == 13) = false := by rw [beq_eq_false_iff_ne]; omega
  have q14 : (op == 14) = false := by rw [beq_eq_false_iff_ne]; omega
  have q16 : (op == 16) = false := by rw [beq_eq_false_iff_ne]; omega
  have q17 : (op == 17) = false := by rw [beq_eq_false_iff_ne]; omega
  have q40 : (op == 40) = false := by rw [beq_eq_false_iff_ne]; omega
  have q41 : (op == 41) = false := by rw [beq_eq_false_iff_ne]; omega
  have q65 : (op == 65) = false := by rw [beq_eq_false_iff_ne]; omega
  have q66 : (op == 66) = false := by rw [beq_eq_false_iff_ne]; omega
  have a32 : decide ((32 : Int) ≤ op) = true := decide_eq_true (by omega)
  have b36 : decide (op ≤ (36 : Int)) = false := decide_eq_false (by omega)
  have a44 : decide ((44 : Int) ≤ op) = true := decide_eq_true (by omega)
  have b55 : decide (op ≤ (55 : Int)) = true := decide_eq_true (by omega)
  have a58 : decide ((58 : Int) ≤ op) = false := decide_eq_false (by omega)
  clear h
  go_enter Tryz.func83, Tryz.ntmps83
  go_wp2_with fail
  refine (C.reckons _ _ HI.out).mono ?_
  rintro e u ⟨rfl, hb⟩
  have HB := hideM hb
  clear hb
  rw [hp]
  go_wp2
  go_ret
  exact ⟨rfl, HB.out⟩

set_option maxHeartbeats 1000000 in
theorem pForm24 {I : World → Prop} (C : ReckC I) (op : Int) (w : World) (h : 56 ≤ op ∧ op ≤ 56) (hI : I w) : Calls Tryz.prog 83 #[.int .i64 op] w fun e w' => e = .returned (.int .i64 10) ∧ Below w.heap.size w w' := by
  have hp : rkn op = false := decide_eq_false (by omega)
  have hfl : flt op = true := decide_eq_true (by omega)
  have HI := hideM hI
  clear hI
  obtain rfl : op = 56 := by omega
  clear h
  go_enter Tryz.func83, Tryz.ntmps83
  go_wp2_with fail
  refine (C.reckons _ _ HI.out).mono ?_
  rintro e u ⟨rfl, hb⟩
  have HB := hideM hb
  clear hb
  rw [hp]
  go_wp2_with fail
  refine (pfloats _ _).mono ?_
  rintro e u ⟨rfl, rfl⟩
  rw [hfl]
  go_wp2
  go_ret
  exact ⟨rfl, HB.out⟩

set_option maxHeartbeats 1000000 in
theorem pForm25 {I : World → Prop} (C : ReckC I) (op : Int) (w : World) (h : 57 ≤ op ∧ op ≤ 57) (hI : I w) : Calls Tryz.prog 83 #[.int .i64 op] w fun e w' => e = .returned (.int .i64 10) ∧ Below w.heap.size w w' := by
  have hp : rkn op = false := decide_eq_false (by omega)
  have hfl : flt op = true := decide_eq_true (by omega)
  have HI := hideM hI
  clear hI
  obtain rfl : op = 57 := by omega
  clear h
  go_enter Tryz.func83, Tryz.ntmps83
  go_wp2_with fail
  refine (C.reckons _ _ HI.out).mono ?_
  rintro e u ⟨rfl, hb⟩
  have HB := hideM hb
  clear hb
  rw [hp]
  go_wp2_with fail
  refine (pfloats _ _).mono ?_
  rintro e u ⟨rfl, rfl⟩
  rw [hfl]
  go_wp2
  go_ret
  exact ⟨rfl, HB.out⟩

set_option maxHeartbeats 1000000 in
theorem pForm26 {I : World → Prop} (C : ReckC I) (op : Int) (w : World) (h : 58 ≤ op ∧ op ≤ 62) (hI : I w) : Calls Tryz.prog 83 #[.int .i64 op] w fun e w' => e = .returned (.int .i64 8) ∧ Below w.heap.size w w' := by
  have hp : rkn op = false := decide_eq_false (by omega)
  have hfl : flt op = false := decide_eq_false (by omega)
  have HI := hideM hI
  clear hI
  have q0 : (op == 0) = false := by rw [beq_eq_false_iff_ne]; omega
  have q1 : (op == 1) = false := by rw [beq_eq_false_iff_ne]; omega
  have q15 : (op == 15) = false := by rw [beq_eq_false_iff_ne]; omega
  have q26 : (op == 26) = false := by rw [beq_eq_false_iff_ne]; omega
  have q27 : (op == 27) = false := by rw [beq_eq_false_iff_ne]; omega
  have q63 : (op == 63) = false := by rw [beq_eq_false_iff_ne]; omega
  have q64 : (op == 64) = false := by rw [beq_eq_false_iff_ne]; omega
  have q2 : (op == 2) = false := by rw [beq_eq_false_iff_ne]; omega
  have q3 : (op == 3) = false := by rw [beq_eq_false_iff_ne]; omega
  have q4 : (op == 4) = false := by rw [beq_eq_false_iff_ne]; omega
  have q12 : (op == 12) = false := by rw [beq_eq_false_iff_ne]; omega
  have q13 : (op == 13) = false := by rw [beq_eq_false_iff_ne]; omega
  have q14 : (op == 14) = false := by rw [beq_eq_false_iff_ne]; omega
  have q16 : (op == 16) = false := by rw [beq_eq_false_iff_ne]; omega
  have q17 : (op == 17) = false := by rw [beq_eq_false_iff_ne]; omega
  have q40 : (op == 40) = false := by rw [beq_eq_false_iff_ne]; omega
  have q41 : (op == 41) = false := by rw [beq_eq_false_iff_ne]; omega
  have q65 : (op == 65) = false := by rw [beq_eq_false_iff_ne]; omega
  have q66 : (op == 66) = false := by rw [beq_eq_false_iff_ne]; omega
  have a32 : decide ((32 : Int) ≤ op) = true := decide_eq_true (by omega)
  have b36 : decide (op ≤ (36 : Int)) = false := decide_eq_false (by omega)
  have a44 : decide ((44 : Int) ≤ op) = true := decide_eq_true (by omega)
  have b55 : decide (op ≤ (55 : Int)) = false := decide_eq_false (by omega)
  have a58 : decide ((58 : Int) ≤ op) = true := decide_eq_true (by omega)
  have b62 : decide (op ≤ (62 : Int)) = true := decide_eq_true (by omega)
  clear h
  go_enter Tryz.func83, Tryz.ntmps83
  go_wp2_with fail
  refine (C.reckons _ _ HI.out).mono ?_
  rintro e u ⟨rfl, hb⟩
  have HB := hideM hb
  clear hb
  rw [hp]
  go_wp2
  go_ret
  exact ⟨rfl, HB.out⟩

set_option maxHeartbeats 1000000 in
theorem pForm27 {I : World → Prop} (C : ReckC I) (op : Int) (w : World) (h : 63 ≤ op ∧ op ≤ 63) (hI : I w) : Calls Tryz.prog 83 #[.int .i64 op] w fun e w' => e = .returned (.int .i64 1) ∧ Below w.heap.size w w' := by
  have hp : rkn op = false := decide_eq_false (by omega)
  have hfl : flt op = false := decide_eq_false (by omega)
  have HI := hideM hI
  clear hI
  obtain rfl : op = 63 := by omega
  clear h
  go_enter Tryz.func83, Tryz.ntmps83
  go_wp2
  go_ret
  exact ⟨rfl, Below.refl _ _⟩

end Go.Proofs.YtloelineidlenaaGreatDoor

namespace Go.Proofs.YtloelineidlenaaGreatDoor
open Go.RowKit Rep
set_option linter.unusedVariables false

set_option maxHeartbeats 1000000 in
theorem pForm28 {I : World → Prop} (C : ReckC I) (op : Int) (w : World) (h : 64 ≤ op ∧ op ≤ 64) (hI : I w) : Calls Tryz.prog 83 #[.int .i64 op] w fun e w' => e = .returned (.int .i64 1) ∧ Below w.heap.size w w' := by
  have hp : rkn op = false := decide_eq_false (by omega)
  have hfl : flt op = false := decide_eq_false (by omega)
  have HI := hideM hI
  clear hI
  obtain rfl : op = 64 := by omega
  clear h
  go_enter Tryz.func83, Tryz.ntmps83
  go_wp2
  go_ret
  exact ⟨rfl, Below.refl _ _⟩

set_option maxHeartbeats 1000000 in
theorem pForm29 {I : World → Prop} (C : ReckC I) (op : Int) (w : World) (h : 65 ≤ op ∧ op ≤ 65) (hI : I w) : Calls Tryz.prog 83 #[.int .i64 op] w fun e w' => e = .returned (.int .i64 9) ∧ Below w.heap.size w w' := by
  have hp : rkn op = false := decide_eq_false (by omega)
  have hfl : flt op = false := decide_eq_false (by omega)
  have HI := hideM hI
  clear hI
  obtain rfl : op = 65 := by omega
  clear h
  go_enter Tryz.func83, Tryz.ntmps83
  go_wp2_with fail
  refine (C.reckons _ _ HI.out).mono ?_
  rintro e u ⟨rfl, hb⟩
  have HB := hideM hb
  clear hb
  rw [hp]
  go_wp2
  go_ret
  exact ⟨rfl, HB.out⟩

set_option maxHeartbeats 1000000 in
theorem pForm30 {I : World → Prop} (C : ReckC I) (op : Int) (w : World) (h : 66 ≤ op ∧ op ≤ 66) (hI : I w) : Calls Tryz.prog 83 #[.int .i64 op] w fun e w' => e = .returned (.int .i64 9) ∧ Below w.heap.size w w' := by
  have hp : rkn op = false := decide_eq_false (by omega)
  have hfl : flt op = false := decide_eq_false (by omega)
  have HI := hideM hI
  clear hI
  obtain rfl : op = 66 := by omega
  clear h
  go_enter Tryz.func83, Tryz.ntmps83
  go_wp2_with fail
  refine (C.reckons _ _ HI.out).mono ?_
  rintro e u ⟨rfl, hb⟩
  have HB := hideM hb
  clear hb
  rw [hp]
  go_wp2
  go_ret
  exact ⟨rfl, HB.out⟩

set_option maxHeartbeats 1000000 in
theorem pForm31 {I : World → Prop} (C : ReckC I) (op : Int) (w : World) (h : 67 ≤ op ∧ op ≤ 67) (hI : I w) : Calls Tryz.prog 83 #[.int .i64 op] w fun e w' => e = .returned (.int .i64 10) ∧ Below w.heap.size w w' := by
  have hp : rkn op = false := decide_eq_false (by omega)
  have hfl : flt op = true := decide_eq_true (by omega)
  have HI := hideM hI
  clear hI
  obtain rfl : op = 67 := by omega
  clear h
  go_enter Tryz.func83, Tryz.ntmps83
  go_wp2_with fail
  refine (C.reckons _ _ HI.out).mono ?_
  rintro e u ⟨rfl, hb⟩
  have HB := hideM hb
  clear hb
  rw [hp]
  go_wp2_with fail
  refine (pfloats _ _).mono ?_
  rintro e u ⟨rfl, rfl⟩
  rw [hfl]
  go_wp2
  go_ret
  exact ⟨rfl, HB.out⟩

set_option maxHeartbeats 1000000 in
theorem pForm32 {I : World → Prop} (C : ReckC I) (op : Int) (w : World) (h : 68 ≤ op ∧ op ≤ 68) (hI : I w) : Calls Tryz.prog 83 #[.int .i64 op] w fun e w' => e = .returned (.int .i64 10) ∧ Below w.heap.size w w' := by
  have hp : rkn op = false := decide_eq_false (by omega)
  have hfl : flt op = true := decide_eq_true (by omega)
  have HI := hideM hI
  clear hI
  obtain rfl : op = 68 := by omega
  clear h
  go_enter Tryz.func83, Tryz.ntmps83
  go_wp2_with fail
  refine (C.reckons _ _ HI.out).mono ?_
  rintro e u ⟨rfl, hb⟩
  have HB := hideM hb
  clear hb
  rw [hp]
  go_wp2_with fail
  refine (pfloats _ _).mono ?_
  rintro e u ⟨rfl, rfl⟩
  rw [hfl]
  go_wp2
  go_ret
  exact ⟨rfl, HB.out⟩

set_option maxHeartbeats 1000000 in
theorem pForm33 {I : World → Prop} (C : ReckC I) (op : Int) (w : World) (h : 69 ≤ op ∧ op ≤ 90) (hI : I w) : Calls Tryz.prog 83 #[.int .i64 op] w fun e w' => e = .returned (.int .i64 1) ∧ Below w.heap.size w w' := by
  have hp : rkn op = true := decide_eq_true (by omega)
  have hfl : flt op = false := decide_eq_false (by omega)
  have HI := hideM hI
  clear hI
  have q0 : (op == 0) = false := by rw [beq_eq_false_iff_ne]; omega
  have q1 : (op == 1) = false := by rw [beq_eq_false_iff_ne]; omega
  have q15 : (op == 15) = false := by rw [beq_eq_false_iff_ne]; omega
  have q26 : (op == 26) = false := by rw [beq_eq_false_iff_ne]; omega
  have q27 : (op == 27) = false := by rw [beq_eq_false_iff_ne]; omega
  have q63 : (op == 63) = false := by rw [beq_eq_false_iff_ne]; omega
  have q64 : (op == 64) = false := by rw [beq_eq_false_iff_ne]; omega
  have q2 : (op == 2) = false := by rw [beq_eq_false_iff_ne]; omega
  have q3 : (op == 3) = false := by rw [beq_eq_false_iff_ne]; omega
  have q4 : (op == 4) = false := by rw [beq_eq_false_iff_ne]; omega
  have q12 : (op == 12) = false := by rw [beq_eq_false_iff_ne]; omega
  have q13 : (op == 13) = false := by rw [beq_eq_false_iff_ne]; omega
  have q14 : (op == 14) = false := by rw [beq_eq_false_iff_ne]; omega
  have q16 : (op == 16) = false := by rw [beq_eq_false_iff_ne]; omega
  have q17 : (op == 17) = false := by rw [beq_eq_false_iff_ne]; omega
  have q40 : (op == 40) = false := by rw [beq_eq_false_iff_ne]; omega
  have q41 : (op == 41) = false := by rw [beq_eq_false_iff_ne]; omega
  have q65 : (op == 65) = false := by rw [beq_eq_false_iff_ne]; omega
  have q66 : (op == 66) = false := by rw [beq_eq_false_iff_ne]; omega
  have a32 : decide ((32 : Int) ≤ op) = true := decide_eq_true (by omega)
  have b36 : decide (op ≤ (36 : Int)) = false := decide_eq_false (by omega)
  have a44 : decide ((44 : Int) ≤ op) = true := decide_eq_true (by omega)
  have b55 : decide (op ≤ (55 : Int)) = false := decide_eq_false (by omega)
  have a58 : decide ((58 : Int) ≤ op) = true := decide_eq_true (by omega)
  have b62 : decide (op ≤ (62 : Int)) = false := decide_eq_false (by omega)
  clear h
  go_enter Tryz.func83, Tryz.ntmps83
  go_wp2_with fail
  refine (C.reckons _ _ HI.out).mono ?_
  rintro e u ⟨rfl, hb⟩
  have HB := hideM hb
  clear hb
  rw [hp]
  go_wp2
  go_ret
  exact ⟨rfl, HB.out⟩

set_option maxHeartbeats 1000000 in
theorem pForm34 {I : World → Prop} (C : ReckC I) (op : Int) (w : World) (h : 91 ≤ op ∧ op ≤ 102) (hI : I w) : Calls Tryz.prog 83 #[.int .i64 op] w fun e w' => e = .returned (.int .i64 10) ∧ Below w.heap.size w w' := by
  have hp : rkn op = false := decide_eq_false (by omega)
  have hfl : flt op = true := decide_eq_true (by omega)
  have HI := hideM hI
  clear hI
  have q0 : (op == 0) = false := by rw [beq_eq_false_iff_ne]; omega
  have q1 : (op == 1) = false := by rw [beq_eq_false_iff_ne]; omega
  have q15 : (op == 15) = false := by rw [beq_eq_false_iff_ne]; omega
  have q26 : (op == 26) = false := by rw [beq_eq_false_iff_ne]; omega
  have q27 : (op == 27) = false := by rw [beq_eq_false_iff_ne]; omega
  have q63 : (op == 63) = false := by rw [beq_eq_false_iff_ne]; omega
  have q64 : (op == 64) = false := by rw [beq_eq_false_iff_ne]; omega
  have q2 : (op == 2) = false := by rw [beq_eq_false_iff_ne]; omega
  have q3 : (op == 3) = false := by rw [beq_eq_false_iff_ne]; omega
  have q4 : (op == 4) = false := by rw [beq_eq_false_iff_ne]; omega
  have q12 : (op == 12) = false := by rw [beq_eq_false_iff_ne]; omega
  have q13 : (op == 13) = false := by rw [beq_eq_false_iff_ne]; omega
  have q14 : (op == 14) = false := by rw [beq_eq_false_iff_ne]; omega
  have q16 : (op == 16) = false := by rw [beq_eq_false_iff_ne]; omega
  have q17 : (op == 17) = false := by rw [beq_eq_false_iff_ne]; omega
  have q40 : (op == 40) = false := by rw [beq_eq_false_iff_ne]; omega
  have q41 : (op == 41) = false := by rw [beq_eq_false_iff_ne]; omega
  have q65 : (op == 65) = false := by rw [beq_eq_false_iff_ne]; omega
  have q66 : (op == 66) = false := by rw [beq_eq_false_iff_ne]; omega
  have a32 : decide ((32 : Int) ≤ op) = true := decide_eq_true (by omega)
  have b36 : decide (op ≤ (36 : Int)) = false := decide_eq_false (by omega)
  have a44 : decide ((44 : Int) ≤ op) = true := decide_eq_true (by omega)
  have b55 : decide (op ≤ (55 : Int)) = false := decide_eq_false (by omega)
  have a58 : decide ((58 : Int) ≤ op) = true := decide_eq_true (by omega)
  have b62 : decide (op ≤ (62 : Int)) = false := decide_eq_false (by omega)
  clear h
  go_enter Tryz.func83, Tryz.ntmps83
  go_wp2_with fail
  refine (C.reckons _ _ HI.out).mono ?_
  rintro e u ⟨rfl, hb⟩
  have HB := hideM hb
  clear hb
  rw [hp]
  go_wp2_with fail
  refine (pfloats _ _).mono ?_
  rintro e u ⟨rfl, rfl⟩
  rw [hfl]
  go_wp2
  go_ret
  exact ⟨rfl, HB.out⟩

set_option maxHeartbeats 1000000 in
theorem pForm35 {I : World → Prop} (C : ReckC I) (op : Int) (w : World) (h : 103 ≤ op ∧ op ≤ 138) (hI : I w) : Calls Tryz.prog 83 #[.int .i64 op] w fun e w' => e = .returned (.int .i64 1) ∧ Below w.heap.size w w' := by
  have hp : rkn op = true := decide_eq_true (by omega)
  have hfl : flt op = false := decide_eq_false (by omega)
  have HI := hideM hI
  clear hI
  have q0 : (op == 0) = false := by rw [beq_eq_false_iff_ne]; omega
  have q1 : (op == 1) = false := by rw [beq_eq_false_iff_ne]; omega
  have q15 : (op == 15) = false := by rw [beq_eq_false_iff_ne]; omega
  have q26 : (op == 26) = false := by rw [beq_eq_false_iff_ne]; omega
  have q27 : (op == 27) = false := by rw [beq_eq_false_iff_ne]; omega
  have q63 : (op == 63) = false := by rw [beq_eq_false_iff_ne]; omega
  have q64 : (op == 64) = false := by rw [beq_eq_false_iff_ne]; omega
  have q2 : (op == 2) = false := by rw [beq_eq_false_iff_ne]; omega
  have q3 : (op == 3) = false := by rw [beq_eq_false_iff_ne]; omega
  have q4 : (op == 4) = false := by rw [beq_eq_false_iff_ne]; omega
  have q12 : (op == 12) = false := by rw [beq_eq_false_iff_ne]; omega
  have q13 : (op == 13) = false := by rw [beq_eq_false_iff_ne]; omega
  have q14 : (op == 14) = false := by rw [beq_eq_false_iff_ne]; omega
  have q16 : (op == 16) = false := by rw [beq_eq_false_iff_ne]; omega
  have q17 : (op == 17) = false := by rw [beq_eq_false_iff_ne]; omega
  have q40 : (op == 40) = false := by rw [beq_eq_false_iff_ne]; omega
  have q41 : (op == 41) = false := by rw [beq_eq_false_iff_ne]; omega
  have q65 : (op == 65) = false := by rw [beq_eq_false_iff_ne]; omega
  have q66 : (op == 66) = false := by rw [beq_eq_false_iff_ne]; omega
  have a32 : decide ((32 : Int) ≤ op) = true := decide_eq_true (by omega)
  have b36 : decide (op ≤ (36 : Int)) = false := decide_eq_false (by omega)
  have a44 : decide ((44 : Int) ≤ op) = true := decide_eq_true (by omega)
  have b55 : decide (op ≤ (55 : Int)) = false := decide_eq_false (by omega)
  have a58 : decide ((58 : Int) ≤ op) = true := decide_eq_true (by omega)
  have b62 : decide (op ≤ (62 : Int)) = false := decide_eq_false (by omega)
  clear h
  go_enter Tryz.func83, Tryz.ntmps83
  go_wp2_with fail
  refine (C.reckons _ _ HI.out).mono ?_
  rintro e u ⟨rfl, hb⟩
  have HB := hideM hb
  clear hb
  rw [hp]
  go_wp2
  go_ret
  exact ⟨rfl, HB.out⟩

set_option maxHeartbeats 1000000 in
theorem pForm36 {I : World → Prop} (C : ReckC I) (op : Int) (w : World) (h : 139 ≤ op ∧ op ≤ 166) (hI : I w) : Calls Tryz.prog 83 #[.int .i64 op] w fun e w' => e = .returned (.int .i64 10) ∧ Below w.heap.size w w' := by
  have hp : rkn op = false := decide_eq_false (by omega)
  have hfl : flt op = true := decide_eq_true (by omega)
  have HI := hideM hI
  clear hI
  have q0 : (op == 0) = false := by rw [beq_eq_false_iff_ne]; omega
  have q1 : (op == 1) = false := by rw [beq_eq_false_iff_ne]; omega
  have q15 : (op == 15) = false := by rw [beq_eq_false_iff_ne]; omega
  have q26 : (op == 26) = false := by rw [beq_eq_false_iff_ne]; omega
  have q27 : (op == 27) = false := by rw [beq_eq_false_iff_ne]; omega
  have q63 : (op == 63) = false := by rw [beq_eq_false_iff_ne]; omega
  have q64 : (op == 64) = false := by rw [beq_eq_false_iff_ne]; omega
  have q2 : (op == 2) = false := by rw [beq_eq_false_iff_ne]; omega
  have q3 : (op == 3) = false := by rw [beq_eq_false_iff_ne]; omega
  have q4 : (op == 4) = false := by rw [beq_eq_false_iff_ne]; omega
  have q12 : (op == 12) = false := by rw [beq_eq_false_iff_ne]; omega
  have q13 : (op == 13) = false := by rw [beq_eq_false_iff_ne]; omega
  have q14 : (op == 14) = false := by rw [beq_eq_false_iff_ne]; omega
  have q16 : (op == 16) = false := by rw [beq_eq_false_iff_ne]; omega
  have q17 : (op == 17) = false := by rw [beq_eq_false_iff_ne]; omega
  have q40 : (op == 40) = false := by rw [beq_eq_false_iff_ne]; omega
  have q41 : (op == 41) = false := by rw [beq_eq_false_iff_ne]; omega
  have q65 : (op == 65) = false := by rw [beq_eq_false_iff_ne]; omega
  have q66 : (op == 66) = false := by rw [beq_eq_false_iff_ne]; omega
  have a32 : decide ((32 : Int) ≤ op) = true := decide_eq_true (by omega)
  have b36 : decide (op ≤ (36 : Int)) = false := decide_eq_false (by omega)
  have a44 : decide ((44 : Int) ≤ op) = true := decide_eq_true (by omega)
  have b55 : decide (op ≤ (55 : Int)) = false := decide_eq_false (by omega)
  have a58 : decide ((58 : Int) ≤ op) = true := decide_eq_true (by omega)
  have b62 : decide (op ≤ (62 : Int)) = false := decide_eq_false (by omega)
  clear h
  go_enter Tryz.func83, Tryz.ntmps83
  go_wp2_with fail
  refine (C.reckons _ _ HI.out).mono ?_
  rintro e u ⟨rfl, hb⟩
  have HB := hideM hb
  clear hb
  rw [hp]
  go_wp2_with fail
  refine (pfloats _ _).mono ?_
  rintro e u ⟨rfl, rfl⟩
  rw [hfl]
  go_wp2
  go_ret
  exact ⟨rfl, HB.out⟩

set_option maxHeartbeats 1000000 in
theorem pForm37 {I : World → Prop} (C : ReckC I) (op : Int) (w : World) (h : 167 ≤ op ∧ op ≤ 167) (hI : I w) : Calls Tryz.prog 83 #[.int .i64 op] w fun e w' => e = .returned (.int .i64 1) ∧ Below w.heap.size w w' := by
  have hp : rkn op = true := decide_eq_true (by omega)
  have hfl : flt op = false := decide_eq_false (by omega)
  have HI := hideM hI
  clear hI
  obtain rfl : op = 167 := by omega
  clear h
  go_enter Tryz.func83, Tryz.ntmps83
  go_wp2_with fail
  refine (C.reckons _ _ HI.out).mono ?_
  rintro e u ⟨rfl, hb⟩
  have HB := hideM hb
  clear hb
  rw [hp]
  go_wp2
  go_ret
  exact ⟨rfl, HB.out⟩

set_option maxHeartbeats 1000000 in
theorem pForm38 {I : World → Prop} (C : ReckC I) (op : Int) (w : World) (h : 168 ≤ op ∧ op ≤ 171) (hI : I w) : Calls Tryz.prog 83 #[.int .i64 op] w fun e w' => e = .returned (.int .i64 10) ∧ Below w.heap.size w w' := by
  have hp : rkn op = false := decide_eq_false (by omega)
  have hfl : flt op = true := decide_eq_true (by omega)
  have HI := hideM hI
  clear hI
  have q0 : (op == 0) = false := by rw [beq_eq_false_iff_ne]; omega
  have q1 : (op == 1) = false := by rw [beq_eq_false_iff_ne]; omega
  have q15 : (op == 15) = false := by rw [beq_eq_false_iff_ne]; omega
  have q26 : (op == 26) = false := by rw [beq_eq_false_iff_ne]; omega
  have q27 : (op == 27) = false := by rw [beq_eq_false_iff_ne]; omega
  have q63 : (op == 63) = false := by rw [beq_eq_false_iff_ne]; omega
  have q64 : (op == 64) = false := by rw [beq_eq_false_iff_ne]; omega
  have q2 : (op == 2) = false := by rw [beq_eq_false_iff_ne]; omega
  have q3 : (op == 3) = false := by rw [beq_eq_false_iff_ne]; omega
  have q4 : (op == 4) = false := by rw [beq_eq_false_iff_ne]; omega
  have q12 : (op == 12) = false := by rw [beq_eq_false_iff_ne]; omega
  have q13 : (op == 13) = false := by rw [beq_eq_false_iff_ne]; omega
  have q14 : (op == 14) = false := by rw [beq_eq_false_iff_ne]; omega
  have q16 : (op == 16) = false := by rw [beq_eq_false_iff_ne]; omega
  have q17 : (op == 17) = false := by rw [beq_eq_false_iff_ne]; omega
  have q40 : (op == 40) = false := by rw [beq_eq_false_iff_ne]; omega
  have q41 : (op == 41) = false := by rw [beq_eq_false_iff_ne]; omega
  have q65 : (op == 65) = false := by rw [beq_eq_false_iff_ne]; omega
  have q66 : (op == 66) = false := by rw [beq_eq_false_iff_ne]; omega
  have a32 : decide ((32 : Int) ≤ op) = true := decide_eq_true (by omega)
  have b36 : decide (op ≤ (36 : Int)) = false := decide_eq_false (by omega)
  have a44 : decide ((44 : Int) ≤ op) = true := decide_eq_true (by omega)
  have b55 : decide (op ≤ (55 : Int)) = false := decide_eq_false (by omega)
  have a58 : decide ((58 : Int) ≤ op) = true := decide_eq_true (by omega)
  have b62 : decide (op ≤ (62 : Int)) = false := decide_eq_false (by omega)
  clear h
  go_enter Tryz.func83, Tryz.ntmps83
  go_wp2_with fail
  refine (C.reckons _ _ HI.out).mono ?_
  rintro e u ⟨rfl, hb⟩
  have HB := hideM hb
  clear hb
  rw [hp]
  go_wp2_with fail
  refine (pfloats _ _).mono ?_
  rintro e u ⟨rfl, rfl⟩
  rw [hfl]
  go_wp2
  go_ret
  exact ⟨rfl, HB.out⟩

set_option maxHeartbeats 1000000 in
theorem pForm39 {I : World → Prop} (C : ReckC I) (op : Int) (w : World) (h : 172 ≤ op ∧ op ≤ 173) (hI : I w) : Calls Tryz.prog 83 #[.int .i64 op] w fun e w' => e = .returned (.int .i64 1) ∧ Below w.heap.size w w' := by
  have hp : rkn op = true := decide_eq_true (by omega)
  have hfl : flt op = false := decide_eq_false (by omega)
  have HI := hideM hI
  clear hI
  have q0 : (op == 0) = false := by rw [beq_eq_false_iff_ne]; omega
  have q1 : (op == 1) = false := by rw [beq_eq_false_iff_ne]; omega
  have q15 : (op == 15) = false := by rw [beq_eq_false_iff_ne]; omega
  have q26 : (op == 26) = false := by rw [beq_eq_false_iff_ne]; omega
  have q27 : (op == 27) = false := by rw [beq_eq_false_iff_ne]; omega
  have q63 : (op == 63) = false := by rw [beq_eq_false_iff_ne]; omega
  have q64 : (op == 64) = false := by rw [beq_eq_false_iff_ne]; omega
  have q2 : (op == 2) = false := by rw [beq_eq_false_iff_ne]; omega
  have q3 : (op == 3) = false := by rw [beq_eq_false_iff_ne]; omega
  have q4 : (op == 4) = false := by rw [beq_eq_false_iff_ne]; omega
  have q12 : (op == 12) = false := by rw [beq_eq_false_iff_ne]; omega
  have q13 : (op == 13) = false := by rw [beq_eq_false_iff_ne]; omega
  have q14 : (op == 14) = false := by rw [beq_eq_false_iff_ne]; omega
  have q16 : (op == 16) = false := by rw [beq_eq_false_iff_ne]; omega
  have q17 : (op == 17) = false := by rw [beq_eq_false_iff_ne]; omega
  have q40 : (op == 40) = false := by rw [beq_eq_false_iff_ne]; omega
  have q41 : (op == 41) = false := by rw [beq_eq_false_iff_ne]; omega
  have q65 : (op == 65) = false := by rw [beq_eq_false_iff_ne]; omega
  have q66 : (op == 66) = false := by rw [beq_eq_false_iff_ne]; omega
  have a32 : decide ((32 : Int) ≤ op) = true := decide_eq_true (by omega)
  have b36 : decide (op ≤ (36 : Int)) = false := decide_eq_false (by omega)
  have a44 : decide ((44 : Int) ≤ op) = true := decide_eq_true (by omega)
  have b55 : decide (op ≤ (55 : Int)) = false := decide_eq_false (by omega)
  have a58 : decide ((58 : Int) ≤ op) = true := decide_eq_true (by omega)
  have b62 : decide (op ≤ (62 : Int)) = false := decide_eq_false (by omega)
  clear h
  go_enter Tryz.func83, Tryz.ntmps83
  go_wp2_with fail
  refine (C.reckons _ _ HI.out).mono ?_
  rintro e u ⟨rfl, hb⟩
  have HB := hideM hb
  clear hb
  rw [hp]
  go_wp2
  go_ret
  exact ⟨rfl, HB.out⟩

set_option maxHeartbeats 1000000 in
theorem pForm40 {I : World → Prop} (C : ReckC I) (op : Int) (w : World) (h : 174 ≤ op ∧ op ≤ 191) (hI : I w) : Calls Tryz.prog 83 #[.int .i64 op] w fun e w' => e = .returned (.int .i64 10) ∧ Below w.heap.size w w' := by
  have hp : rkn op = false := decide_eq_false (by omega)
  have hfl : flt op = true := decide_eq_true (by omega)
  have HI := hideM hI
  clear hI
  have q0 : (op == 0) = false := by rw [beq_eq_false_iff_ne]; omega
  have q1 : (op == 1) = false := by rw [beq_eq_false_iff_ne]; omega
  have q15 : (op == 15) = false := by rw [beq_eq_false_iff_ne]; omega
  have q26 : (op == 26) = false := by rw [beq_eq_false_iff_ne]; omega
  have q27 : (op == 27) = false := by rw [beq_eq_false_iff_ne]; omega
  have q63 : (op == 63) = false := by rw [beq_eq_false_iff_ne]; omega
  have q64 : (op == 64) = false := by rw [beq_eq_false_iff_ne]; omega
  have q2 : (op == 2) = false := by rw [beq_eq_false_iff_ne]; omega
  have q3 : (op == 3) = false := by rw [beq_eq_false_iff_ne]; omega
  have q4 : (op == 4) = false := by rw [beq_eq_false_iff_ne]; omega
  have q12 : (op == 12) = false := by rw [beq_eq_false_iff_ne]; omega
  have q13 : (op == 13) = false := by rw [beq_eq_false_iff_ne]; omega
  have q14 : (op == 14) = false := by rw [beq_eq_false_iff_ne]; omega
  have q16 : (op == 16) = false := by rw [beq_eq_false_iff_ne]; omega
  have q17 : (op == 17) = false := by rw [beq_eq_false_iff_ne]; omega
  have q40 : (op == 40) = false := by rw [beq_eq_false_iff_ne]; omega
  have q41 : (op == 41) = false := by rw [beq_eq_false_iff_ne]; omega
  have q65 : (op == 65) = false := by rw [beq_eq_false_iff_ne]; omega
  have q66 : (op == 66) = false := by rw [beq_eq_false_iff_ne]; omega
  have a32 : decide ((32 : Int) ≤ op) = true := decide_eq_true (by omega)
  have b36 : decide (op ≤ (36 : Int)) = false := decide_eq_false (by omega)
  have a44 : decide ((44 : Int) ≤ op) = true := decide_eq_true (by omega)
  have b55 : decide (op ≤ (55 : Int)) = false := decide_eq_false (by omega)
  have a58 : decide ((58 : Int) ≤ op) = true := decide_eq_true (by omega)
  have b62 : decide (op ≤ (62 : Int)) = false := decide_eq_false (by omega)
  clear h
  go_enter Tryz.func83, Tryz.ntmps83
  go_wp2_with fail
  refine (C.reckons _ _ HI.out).mono ?_
  rintro e u ⟨rfl, hb⟩
  have HB := hideM hb
  clear hb
  rw [hp]
  go_wp2_with fail
  refine (pfloats _ _).mono ?_
  rintro e u ⟨rfl, rfl⟩
  rw [hfl]
  go_wp2
  go_ret
  exact ⟨rfl, HB.out⟩

set_option maxHeartbeats 1000000 in
theorem pForm41 {I : World → Prop} (C : ReckC I) (op : Int) (w : World) (h : 192 ≤ op) (hI : I w) : Calls Tryz.prog 83 #[.int .i64 op] w fun e w' => e = .returned (.int .i64 0) ∧ Below w.heap.size w w' := by
  have hp : rkn op = false := decide_eq_false (by omega)
  have hfl : flt op = false := decide_eq_false (by omega)
  have HI := hideM hI
  clear hI
  have q0 : (op == 0) = false := by rw [beq_eq_false_iff_ne]; omega
  have q1 : (op == 1) = false := by rw [beq_eq_false_iff_ne]; omega
  have q15 : (op == 15) = false := by rw [beq_eq_false_iff_ne]; omega
  have q26 : (op == 26) = false := by rw [beq_eq_false_iff_ne]; omega
  have q27 : (op == 27) = false := by rw [beq_eq_false_iff_ne]; omega
  have q63 : (op == 63) = false := by rw [beq_eq_false_iff_ne]; omega
  have q64 : (op == 64) = false := by rw [beq_eq_false_iff_ne]; omega
  have q2 : (op == 2) = false := by rw [beq_eq_false_iff_ne]; omega
  have q3 : (op == 3) = false := by rw [beq_eq_false_iff_ne]; omega
  have q4 : (op == 4) = false := by rw [beq_eq_false_iff_ne]; omega
  have q12 : (op == 12) = false := by rw [beq_eq_false_iff_ne]; omega
  have q13 : (op == 13) = false := by rw [beq_eq_false_iff_ne]; omega
  have q14 : (op == 14) = false := by rw [beq_eq_false_iff_ne]; omega
  have q16 : (op == 16) = false := by rw [beq_eq_false_iff_ne]; omega
  have q17 : (op == 17) = false := by rw [beq_eq_false_iff_ne]; omega
  have q40 : (op == 40) = false := by rw [beq_eq_false_iff_ne]; omega
  have q41 : (op == 41) = false := by rw [beq_eq_false_iff_ne]; omega
  have q65 : (op == 65) = false := by rw [beq_eq_false_iff_ne]; omega
  have q66 : (op == 66) = false := by rw [beq_eq_false_iff_ne]; omega
  have a32 : decide ((32 : Int) ≤ op) = true := decide_eq_true (by omega)
  have b36 : decide (op ≤ (36 : Int)) = false := decide_eq_false (by omega)
  have a44 : decide ((44 : Int) ≤ op) = true := decide_eq_true (by omega)
  have b55 : decide (op ≤ (55 : Int)) = false := decide_eq_false (by omega)
  have a58 : decide ((58 : Int) ≤ op) = true := decide_eq_true (by omega)
  have b62 : decide (op ≤ (62 : Int)) = false := decide_eq_false (by omega)
  clear h
  go_enter Tryz.func83, Tryz.ntmps83
  go_wp2_with fail
  refine (C.reckons _ _ HI.out).mono ?_
  rintro e u ⟨rfl, hb⟩
  have HB := hideM hb
  clear hb
  rw [hp]
  go_wp2_with fail
  refine (pfloats _ _).mono ?_
  rintro e u ⟨rfl, rfl⟩
  rw [hfl]
  go_wp2
  go_ret
  exact ⟨rfl, HB.out⟩

end Go.Proofs.YtloelineidlenaaGreatDoor

namespace Go.Proofs.YtloelineidlenaaGreatDoor
open Go.RowKit Rep
set_option linter.unusedVariables false

theorem pForm {I : World → Prop} (C : ReckC I) (op : Int) (w : World) (hI : I w) : Calls Tryz.prog 83 #[.int .i64 op] w fun e w' => e = .returned (.int .i64 (form op)) ∧ Below w.heap.size w w' := by
  by_cases c0 : op ≤ -1
  · have e : form op = 0 := by
      unfold form
      repeat first | rw [if_neg (by omega)] | rw [if_pos (by omega)]
    rw [e]
    exact pForm0 C op w (by omega) hI
  by_cases c1 : op ≤ 0
  · have e : form op = 1 := by
      unfold form
      repeat first | rw [if_neg (by omega)] | rw [if_pos (by omega)]
    rw [e]
    exact pForm1 C op w (by omega) hI
  by_cases c2 : op ≤ 1
  · have e : form op = 1 := by
      unfold form
      repeat first | rw [if_neg (by omega)] | rw [if_pos (by omega)]
    rw [e]
    exact pForm2 C op w (by omega) hI
  by_cases c3 : op ≤ 2
  · have e : form op = 2 := by
      unfold form
      repeat first | rw [if_neg (by omega)] | rw [if_pos (by omega)]
    rw [e]
    exact pForm3 C op w (by omega) hI
  by_cases c4 : op ≤ 3
  · have e : form op = 2 := by
      unfold form
      repeat first | rw [if_neg (by omega)] | rw [if_pos (by omega)]
    rw [e]
    exact pForm4 C op w (by omega) hI
  by_cases c5 : op ≤ 4
  · have e : form op = 3 := by
      unfold form
      repeat first | rw [if_neg (by omega)] | rw [if_pos (by omega)]
    rw [e]
    exact pForm5 C op w (by omega) hI
  by_cases c6 : op ≤ 11
  · have e : form op = 0 := by
      unfold form
      repeat first | rw [if_neg (by omega)] | rw [if_pos (by omega)]
    rw [e]
    exact pForm6 C op w (by omega) hI
  by_cases c7 : op ≤ 12
  · have e : form op = 4 := by
      unfold form
      repeat first | rw [if_neg (by omega)] | rw [if_pos (by omega)]
    rw [e]
    exact pForm7 C op w (by omega) hI
  by_cases c8 : op ≤ 13
  · have e : form op = 4 := by
      unfold form
      repeat first | rw [if_neg (by omega)] | rw [if_pos (by omega)]
    rw [e]
    exact pForm8 C op w (by omega) hI
  by_cases c9 : op ≤ 14
  · have e : form op = 5 := by
      unfold form
      repeat first | rw [if_neg (by omega)] | rw [if_pos (by omega)]
    rw [e]
    exact pForm9 C op w (by omega) hI
  by_cases c10 : op ≤ 15
  · have e : form op = 1 := by
      unfold form
      repeat first | rw [if_neg (by omega)] | rw [if_pos (by omega)]
    rw [e]
    exact pForm10 C op w (by omega) hI
  by_cases c11 : op ≤ 16
  · have e : form op = 6 := by
      unfold form
      repeat first | rw [if_neg (by omega)] | rw [if_pos (by omega)]
    rw [e]
    exact pForm11 C op w (by omega) hI
  by_cases c12 : op ≤ 17
  · have e : form op = 7 := by
      unfold form
      repeat first | rw [if_neg (by omega)] | rw [if_pos (by omega)]
    rw [e]
    exact pForm12 C op w (by omega) hI
  by_cases c13 : op ≤ 25
  · have e : form op = 0 := by
      unfold form
      repeat first | rw [if_neg (by omega)] | rw [if_pos (by omega)]
    rw [e]
    exact pForm13 C op w (by omega) hI
  by_cases c14 : op ≤ 26
  · have e : form op = 1 := by
      unfold form
      repeat first | rw [if_neg (by omega)] | rw [if_pos (by omega)]
    rw [e]
    exact pForm14 C op w (by omega) hI
  by_cases c15 : op ≤ 27
  · have e : form op = 1 := by
      unfold form
      repeat first | rw [if_neg (by omega)] | rw [if_pos (by omega)]
    rw [e]
    exact pForm15 C op w (by omega) hI
  by_cases c16 : op ≤ 31
  · have e : form op = 0 := by
      unfold form
      repeat first | rw [if_neg (by omega)] | rw [if_pos (by omega)]
    rw [e]
    exact pForm16 C op w (by omega) hI
  by_cases c17 : op ≤ 36
  · have e : form op = 6 := by
      unfold form
      repeat first | rw [if_neg (by omega)] | rw [if_pos (by omega)]
    rw [e]
    exact pForm17 C op w (by omega) hI
  by_cases c18 : op ≤ 39
  · have e : form op = 0 := by
      unfold form
      repeat first | rw [if_neg (by omega)] | rw [if_pos (by omega)]
    rw [e]
    exact pForm18 C op w (by omega) hI
  by_cases c19 : op ≤ 40
  · have e : form op = 8 := by
      unfold form
      repeat first | rw [if_neg (by omega)] | rw [if_pos (by omega)]
    rw [e]
    exact pForm19 C op w (by omega) hI
  by_cases c20 : op ≤ 41
  · have e : form op = 8 := by
      unfold form
      repeat first | rw [if_neg (by omega)] | rw [if_pos (by omega)]
    rw [e]
    exact pForm20 C op w (by omega) hI
  by_cases c21 : op ≤ 42
  · have e : form op = 10 := by
      unfold form
      repeat first | rw [if_neg (by omega)] | rw [if_pos (by omega)]
    rw [e]
    exact pForm21 C op w (by omega) hI
  by_cases c22 : op ≤ 43
  · have e : form op = 10 := by
      unfold form
      repeat first | rw [if_neg (by omega)] | rw [if_pos (by omega)]
    rw [e]
    exact pForm22 C op w (by omega) hI
  by_cases c23 : op ≤ 55
  · have e : form op = 8 := by
      unfold form
      repeat first | rw [if_neg (by omega)] | rw [if_pos (by omega)]
    rw [e]
    exact pForm23 C op w (by omega) hI
  by_cases c24 : op ≤ 56
  · have e : form op = 10 := by
      unfold form
      repeat first | rw [if_neg (by omega)] | rw [if_pos (by omega)]
    rw [e]
    exact pForm24 C op w (by omega) hI
  by_cases c25 : op ≤ 57
  · have e : form op = 10 := by
      unfold form
      repeat first | rw [if_neg (by omega)] | rw [if_pos (by omega)]
    rw [e]
    exact pForm25 C op w (by omega) hI
  by_cases c26 : op ≤ 62
  · have e : form op = 8 := by
      unfold form
      repeat first | rw [if_neg (by omega)] | rw [if_pos (by omega)]
    rw [e]
    exact pForm26 C op w (by omega) hI
  by_cases c27 : op ≤ 63
  · have e : form op = 1 := by
      unfold form
      repeat first | rw [if_neg (by omega)] | rw [if_pos (by omega)]
    rw [e]
    exact pForm27 C op w (by omega) hI
  by_cases c28 : op ≤ 64
  · have e : form op = 1 := by
      unfold form
      repeat first | rw [if_neg (by omega)] | rw [if_pos (by omega)]
    rw [e]
    exact pForm28 C op w (by omega) hI
  by_cases c29 : op ≤ 65
  · have e : form op = 9 := by
      unfold form
      repeat first | rw [if_neg (by omega)] | rw [if_pos (by omega)]
    rw [e]
    exact pForm29 C op w (by omega) hI
  by_cases c30 : op ≤ 66
  · have e : form op = 9 := by
      unfold form
      repeat first | rw [if_neg (by omega)] | rw [if_pos (by omega)]
    rw [e]
    exact pForm30 C op w (by omega) hI
  by_cases c31 : op ≤ 67
  · have e : form op = 10 := by
      unfold form
      repeat first | rw [if_neg (by omega)] | rw [if_pos (by omega)]
    rw [e]
    exact pForm31 C op w (by omega) hI
  by_cases c32 : op ≤ 68
  · have e : form op = 10 := by
      unfold form
      repeat first | rw [if_neg (by omega)] | rw [if_pos (by omega)]
    rw [e]
    exact pForm32 C op w (by omega) hI
  by_cases c33 : op ≤ 90
  · have e : form op = 1 := by
      unfold form
      repeat first | rw [if_neg (by omega)] | rw [if_pos (by omega)]
    rw [e]
    exact pForm33 C op w (by omega) hI
  by_cases c34 : op ≤ 102
  · have e : form op = 10 := by
      unfold form
      repeat first | rw [if_neg (by omega)] | rw [if_pos (by omega)]
    rw [e]
    exact pForm34 C op w (by omega) hI
  by_cases c35 : op ≤ 138
  · have e : form op = 1 := by
      unfold form
      repeat first | rw [if_neg (by omega)] | rw [if_pos (by omega)]
    rw [e]
    exact pForm35 C op w (by omega) hI
  by_cases c36 : op ≤ 166
  · have e : form op = 10 := by
      unfold form
      repeat first | rw [if_neg (by omega)] | rw [if_pos (by omega)]
    rw [e]
    exact pForm36 C op w (by omega) hI
  by_cases c37 : op ≤ 167
  · have e : form op = 1 := by
      unfold form
      repeat first | rw [if_neg (by omega)] | rw [if_pos (by omega)]
    rw [e]
    exact pForm37 C op w (by omega) hI
  by_cases c38 : op ≤ 171
  · have e : form op = 10 := by
      unfold form
      repeat first | rw [if_neg (by omega)] | rw [if_pos (by omega)]
    rw [e]
    exact pForm38 C op w (by omega) hI
  by_cases c39 : op ≤ 173
  · have e : form op = 1 := by
      unfold form
      repeat first | rw [if_neg (by omega)] | rw [if_pos (by omega)]
    rw [e]
    exact pForm39 C op w (by omega) hI
  by_cases c40 : op ≤ 191
  · have e : form op = 10 := by
      unfold form
      repeat first | rw [if_neg (by omega)] | rw [if_pos (by omega)]
    rw [e]
    exact pForm40 C op w (by omega) hI
  have e : form op = 0 := by
    unfold form
    repeat rw [if_neg (by omega)]
  rw [e]
  exact pForm41 C op w (by omega) hI
theorem formC {I : World → Prop} (C : ReckC I) : FormC I := ⟨C.keep, fun op w h => pForm C op w h⟩
end Go.Proofs.YtloelineidlenaaGreatDoor

namespace Go.Proofs.YtloelineidlenaaGreatDoor
open Go.RowKit Rep
set_option linter.unusedVariables false
namespace Rep
structure ModOk {d : Nat} (v3 v4 : Value) (m : Mod d) : Prop where
  deep : d ≤ 4611686018427387904
  datas : ∀ x ∈ m.datas, x.bytes.size ≤ 9223372036854775807
  texts : Texts m
  tables : ∀ n c, v3 = .slice none n c → c = 0
  mems : ∀ n c, v4 = .slice none n c → c = 0
theorem fewM_lens {d : Nat} {m : Mod d} (h : fewM m = true) : m.tables.length ≤ 4096 ∧ m.mems.length ≤ 4096 := by
  unfold fewM at h
  rw [Bool.and_eq_true] at h
  have h1 := List.all_eq_true.1 h.1
  have a := h1 (len m.tables) (by simp)
  have b := h1 (len m.mems) (by simp)
  have a := of_decide_eq_true (p := ((m.tables.length : Int) ≤ 4096)) a
  have b := of_decide_eq_true (p := ((m.mems.length : Int) ≤ 4096)) b
  omega
end Rep
theorem pCheckC {I : World → Prop} (C : WastC I) (d : Nat) (v0 v1 v2 v3 v4 v5 v6 v7 v8 v9 : Value) (m : Mod d) (w : World) (hI : I w) (hM : ModAt w d v0 v1 v2 v3 v4 v5 v6 v7 v8 v9 m) (hO : ModOk v3 v4 m) :
    Calls Tryz.prog 17 #[.agg #[v0, v1, v2, v3, v4, v5, v6, v7, v8, v9]] w fun e w' => e = .returned (.int .i64 (chk m)) ∧ Below w.heap.size w w' := by
  refine pCheck C.toFormC d hO.deep v0 v1 v2 v3 v4 v5 v6 v7 v8 v9 m w hI hM hO.datas fun hf w' hb => ?_
  have hl := fewM_lens hf
  have hM' := hM.on hb
  obtain ⟨o3, c3, e3⟩ := Row.len hM'.tables
  obtain ⟨o4, c4, e4⟩ := Row.len hM'.mems
  refine pneedShapes C d v0 v1 v2 v3 v4 v5 v6 v7 v8 v9 m w' (C.keep hb hI) hM' hO.texts fun u b hu k0 k1 => ?_
  have hM2 := hM'.on hu
  have r3 := hM2.tables
  have r4 := hM2.mems
  rw [e3] at r3 k0
  rw [e4] at r4 k1
  refine pConcat m.tables m.mems o3 o4 c3 c4 u b r3 r4 (fun h => ?_) (fun h => ?_) k0 k1 hl.1 hl.2
  · subst h; exact hO.tables _ _ e3
  · subst h; exact hO.mems _ _ e4
theorem wastC {I : World → Prop} (C : ReckC I) (hU : ∀ w, I w → UtfI w) : WastC I :=
  { toFormC := formC C, name := fun s w h hs => pName s w hs (hU w h) }
theorem utfI_on {w w' : World} (hb : Below w.heap.size w w') (h : UtfI w) : UtfI w' := Utf8Tabs_below h hb
end Go.Proofs.YtloelineidlenaaGreatDoor

namespace Go.Proofs.YtloelineidlenaaGreatDoor
open Go.RowKit Rep Enc Go.Lib
set_option linter.unusedVariables false
namespace Enc
def toldS (bs : List Int) : ByteArray := if 262144 < bs.length then ⟨#[]⟩ else strOfNums bs
def toldE (bs : List Int) : Int := if 262144 < bs.length then 2 else 0
theorem told_eq (bs : List Int) : told bs = .tuple #[.string (toldS bs), .int .i64 (toldE bs)] := by
  unfold told toldS toldE; split <;> rfl
theorem told_adds {a x b : List Int} (h : Adds a x b) : told b = told (a ++ x) := by
  rcases h with rfl | ⟨h1, h2, _⟩
  · rfl
  · unfold told; rw [if_pos h1, if_pos (by rw [List.length_append]; exact h2)]
def WX (w0 : World) (p : Nat) (c : Nat → Value) (v : Value) (b : List Int) (w : World) : Prop := WS w0 p c v b w ∨ (b = headB ∧ WN w0 p c v w)
section
variable {w0 w w' : World} {p : Nat} {c : Nat → Value} {v : Value} {b : List Int}
theorem WX.on (h : WX w0 p c v b w) (hb : Below w.heap.size w w') : WX w0 p c v b w' := h.imp (fun h => h.on hb) fun h => ⟨h.1, h.2.on hb⟩
theorem WX.lt (h : WX w0 p c v b w) : p < w.heap.size := by
  rcases h with h | ⟨_, h⟩
  · exact h.lt
  · exact h.lt
theorem WX.own (h : WX w0 p c v b w) : ∀ k, v.ownBlock = some k → k < w.heap.size := by
  rcases h with h | ⟨_, h⟩
  · exact fun k hk => (h.own.lt k hk).2
  · obtain ⟨g, rfl, _, _, hg⟩ := h.row
    intro k hk
    have : g = k := by simpa [Value.ownBlock] using hk
    subst this
    exact (Array.getElem?_eq_some_iff.1 hg).1
theorem WX.below (h : WX w0 p c v b w) : Below w0.heap.size w0 w := by
  rcases h with h | ⟨_, h⟩
  · exact h.below
  · exact h.below
theorem WX.put (h : WX w0 p c v b w) (hn : b.length ≤ 100000000000000) : PutC w0 p c v b w := by
  rcases h with h | ⟨rfl, h⟩
  · exact PutC.of h hn
  · exact fun b w' hb => wPutN w0 p c v b w' (h.on hb)
theorem WX.told (h : WX w0 p c v b w) (hn : b.length ≤ 100000000000000) (h0 : 0 < b.length) : Calls Tryz.prog 20 #[.pointer (some ⟨p, 0, none⟩)] w fun e w' => e = .returned (told b) ∧ w' = w := by
  rcases h with h | ⟨rfl, h⟩
  · exact wTold w0 p c v b w h hn h0
  · exact wToldN w0 p c v w h
end
theorem wSec (w0 : World) (p : Nat) (c : Nat → Value) (id : Int) (n : Nat) (F : FuncId) (f : Nat → List Int) (v : Value) (b : List Int) (w : World) (h : WX w0 p c v b w) (hS : SecIn w0 p c id n F f) (hid : 0 ≤ id ∧ id ≤ 255) (hlen : b.length + (secB id n (insideB id n f)).length ≤ 38800000000000) :
    Calls Tryz.prog 19 #[.pointer (some ⟨p, 0, none⟩), .agg #[.int .i64 id, .int .i64 (n : Nat), .func (.func F) #[.pointer (some ⟨p, 0, none⟩)] #[]]] w fun e w' => ∃ v' b', e = .returned (.tuple #[]) ∧ WX w0 p c v' b' w' ∧ Kept p v w v' w' ∧ So b (secB id n (insideB id n f)) b' := by
  rcases Nat.eq_zero_or_pos n with rfl | hn
  · refine (wSection0 p id F w).mono ?_
    rintro e w' ⟨rfl, hb⟩
    exact ⟨v, b, rfl, h.on hb, Kept.below hb, by unfold secB; rw [if_pos rfl]; exact So.refl b⟩
  · have hs : secB id n (insideB id n f) = [id] ++ sizB (insideB id n f) := by unfold secB; rw [if_neg (by omega)]
    rw [hs] at hlen ⊢
    refine (wSection w0 p c id n F f v b w (h.put (by omega)) h.lt h.own hS hn hid (by unfold sizB at hlen; simp only [List.length_append] at hlen; omega)).mono ?_
    rintro e w' ⟨v', b', rfl, h1, h2, h3, h4⟩
    exact ⟨v', b', rfl, .inl h1, h2, h3, h4⟩
def encA {d : Nat} (m : Mod d) : Value := if chk m = 0 then told (modB m) else .tuple #[.string ⟨#[]⟩, .int .i64 (chk m)]
end Enc
set_option maxRecDepth 100000 in
set_option maxHeartbeats 4000000 in
theorem pEncode0 {I : World → Prop} (C : WastC I) (d : Nat) (v0 v1 v2 v3 v4 v5 v6 v7 v8 v9 : Value) (m : Mod d) (w : World) (hI : I w) (hM : ModAt w d v0 v1 v2 v3 v4 v5 v6 v7 v8 v9 m) (hO : ModOk v3 v4 m) (h0 : chk m ≠ 0) :
    Calls Tryz.prog 9 #[.agg #[v0, v1, v2, v3, v4, v5, v6, v7, v8, v9]] w fun e w' => e = .returned (.tuple #[.string ⟨#[]⟩, .int .i64 (chk m)]) ∧ Below w.heap.size w w' := by
  have hb := new_on' w (.cells #[v0, v1, v2, v3, v4, v5, v6, v7, v8, v9] 32)
  have HB := hideR hb
  obtain ⟨o0, k0, rfl⟩ := Row.len hM.types
  obtain ⟨o1, k1, rfl⟩ := Row.len hM.imports
  obtain ⟨o2, k2, rfl⟩ := Row.len hM.funcs
  obtain ⟨o3, k3, rfl⟩ := Row.len hM.tables
  obtain ⟨o4, k4, rfl⟩ := Row.len hM.mems
  obtain ⟨o5, k5, rfl⟩ := Row.len hM.globals
  obtain ⟨o6, k6, rfl⟩ := Row.len hM.exports
  obtain ⟨o7, k7, rfl⟩ := Row.len hM.start
  obtain ⟨o8, k8, rfl⟩ := Row.len hM.elems
  obtain ⟨o9, k9, rfl⟩ := Row.len hM.datas
  have HC := hideR (pCheckC C d _ _ _ _ _ _ _ _ _ _ m _ (C.keep hb hI) (hM.on hb) hO)
  clear hM hO hI hb
  generalize m.types.length = n0 at *
  generalize m.imports.length = n1 at *
  generalize m.funcs.length = n2 at *
  generalize m.tables.length = n3 at *
  generalize m.mems.length = n4 at *
  generalize m.globals.length = n5 at *
  generalize m.exports.length = n6 at *
  generalize m.start.length = n7 at *
  generalize m.elems.length = n8 at *
  generalize m.datas.length = n9 at *
  generalize chk m = r at *
  go_enter Tryz.func9, Tryz.ntmps9
  go_wp2_with fail
  refine HC.out.mono ?_
  rintro e w1 ⟨rfl, hb1⟩
  have HB1 := hideR (HB.out.trans (hb1.mono HB.out.size))
  clear hb1 HB HC
  go_wp2
  go_ret2
  exact ⟨rfl, HB1.out⟩
set_option maxRecDepth 100000 in
set_option maxHeartbeats 4000000 in
theorem pEncode1 {I : World → Prop} (C : WastC I) (d : Nat) (v0 v1 v2 v3 v4 v5 v6 v7 v8 v9 : Value) (m : Mod d) (w : World) (hI : I w) (hM : ModAt w d v0 v1 v2 v3 v4 v5 v6 v7 v8 v9 m) (hO : ModOk v3 v4 m) (h0 : chk m = 0) (W : Wr m) :
    Calls Tryz.prog 9 #[.agg #[v0, v1, v2, v3, v4, v5, v6, v7, v8, v9]] w fun e w' => e = .returned (told (modB m)) ∧ Below w.heap.size w w' := by
  have hkc := fun (w : World) (C : Array Value) (n c : Nat) => Lib.run_convert_bytes_const (P := Tryz.prog) w 53 5 C n c Tryz.underlying53 Tryz.underlying5
  have hb := new_on' w (.cells #[v0, v1, v2, v3, v4, v5, v6, v7, v8, v9] 32)
  have hC0 : Calls Tryz.prog 17 #[.agg #[v0, v1, v2, v3, v4, v5, v6, v7, v8, v9]] (w.alloc (.cells #[v0, v1, v2, v3, v4, v5, v6, v7, v8, v9] 32)) fun e w' => e = .returned (.int .i64 0) ∧ Below (w.alloc (.cells #[v0, v1, v2, v3, v4, v5, v6, v7, v8, v9] 32)).heap.size (w.alloc (.cells #[v0, v1, v2, v3, v4, v5, v6, v7, v8, v9] 32)) w' := by
    have := pCheckC C d _ _ _ _ _ _ _ _ _ _ m _ (C.keep hb hI) (hM.on hb) hO
    rw [h0] at this; exact this
  have HBX := hideR (Bx.new (w := w) (b := w.heap.size) (t := 32) (cs := #[v0, v1, v2, v3, v4, v5, v6, v7, v8, v9]) rfl)
  obtain ⟨c, hc⟩ : ∃ c : Nat → Value, c = fun i => (#[v0, v1, v2, v3, v4, v5, v6, v7, v8, v9]).getD i undef := ⟨_, rfl⟩
  have HSEC : Hid (∀ (p j : Nat), j < 11 → ∃ (id : Int) (n : Nat) (F : FuncId) (f : Nat → List Int), (secCells p (ln m))[j * 3]? = some (.int .i64 id) ∧ (secCells p (ln m))[j * 3 + 1]? = some (.int .i64 (n : Nat)) ∧ (secCells p (ln m))[j * 3 + 2]? = some (.func (.func F) #[.pointer (some ⟨p, 0, none⟩)] #[]) ∧ (0 ≤ id ∧ id ≤ 255) ∧ SecIn w p c id n F f ∧ sb m j = secB id n (insideB id n f)) :=
    hideR fun p j hj => secs_ok C.toFormC w hI p c d m (by rw [hc]; exact hM) W j hj
  have HWN : Hid (∀ w1 : World, Below w.heap.size w w1 → WN w (w1.heap.size + 1) c (.slice (some ⟨w1.heap.size, 0, none⟩) 8 8) ((w1.alloc (.cells #[.int .u8 0, .int .u8 97, .int .u8 115, .int .u8 109, .int .u8 1, .int .u8 0, .int .u8 0, .int .u8 0] 5 (8, 9))).alloc (.cells #[v0, v1, v2, v3, v4, v5, v6, v7, v8, v9, .slice (some ⟨w1.heap.size, 0, none⟩) 8 8] 67))) := hideR fun w1 hb1 =>
    ⟨hb1.trans ((((Below.refl _ w1).alloc (Nat.le_refl _) _).alloc (by simp) _).mono hb1.size), by have := hb1.size; omega, by rw [hc]; exact heap_new1 _ _ _, w1.heap.size, rfl, hb1.size, by omega, by
      have h1 := new_on' (w1.alloc (.cells #[.int .u8 0, .int .u8 97, .int .u8 115, .int .u8 109, .int .u8 1, .int .u8 0, .int .u8 0, .int .u8 0] 5 (8, 9))) (.cells #[v0, v1, v2, v3, v4, v5, v6, v7, v8, v9, .slice (some ⟨w1.heap.size, 0, none⟩) 8 8] 67)
      rw [h1.block _ (by simp)]
      exact heap_new _ _⟩
  have HMB : Hid (modB m = headB ++ fstB (sb m) 11 ∧ (modB m).length ≤ 38000000000000) := hideR ⟨modB_sb m, W.short⟩
  have HB := hideR hb
  have HC := hideR hC0
  obtain ⟨o0, k0, rfl⟩ := Row.len hM.types
  obtain ⟨o1, k1, rfl⟩ := Row.len hM.imports
  obtain ⟨o2, k2, rfl⟩ := Row.len hM.funcs
  obtain ⟨o3, k3, rfl⟩ := Row.len hM.tables
  obtain ⟨o4, k4, rfl⟩ := Row.len hM.mems
  obtain ⟨o5, k5, rfl⟩ := Row.len hM.globals
  obtain ⟨o6, k6, rfl⟩ := Row.len hM.exports
  obtain ⟨o7, k7, rfl⟩ := Row.len hM.start
  obtain ⟨o8, k8, rfl⟩ := Row.len hM.elems
  obtain ⟨o9, k9, rfl⟩ := Row.len hM.datas
  have HCI : Hid (∀ i, i < 10 → c i = .slice ((#[o0, o1, o2, o3, o4, o5, o6, o7, o8, o9]).getD i none) (ln m i) ((#[k0, k1, k2, k3, k4, k5, k6, k7, k8, k9]).getD i 0)) := hideR fun i hi => by
    rw [hc]
    match i, hi with
    | 0, _ => rfl | 1, _ => rfl | 2, _ => rfl | 3, _ => rfl | 4, _ => rfl | 5, _ => rfl | 6, _ => rfl | 7, _ => rfl | 8, _ => rfl | 9, _ => rfl
  clear hM hO hI hb hC0 hc W
  obtain ⟨S, E, hSE⟩ : ∃ S E, told (modB m) = .tuple #[.string S, .int .i64 E] := ⟨_, _, told_eq _⟩
  rw [hSE]
  have HSE := hideR hSE
  clear hSE
  generalize m.types.length = n0 at *
  generalize m.imports.length = n1 at *
  generalize m.funcs.length = n2 at *
  generalize m.tables.length = n3 at *
  generalize m.mems.length = n4 at *
  generalize m.globals.length = n5 at *
  generalize m.exports.length = n6 at *
  generalize m.start.length = n7 at *
  generalize m.elems.length = n8 at *
  generalize m.datas.length = n9 at *
  go_enter Tryz.func9, Tryz.ntmps9
  go_wp2_with fail
  refine HC.out.mono ?_
  rintro e w1 ⟨rfl, hb1⟩
  have HBX1 : Hid (Bx w1 w.heap.size 32 #[.slice o0 n0 k0, .slice o1 n1 k1, .slice o2 n2 k2, .slice o3 n3 k3, .slice o4 n4 k4, .slice o5 n5 k5, .slice o6 n6 k6, .slice o7 n7 k7, .slice o8 n8 k8, .slice o9 n9 k9]) := hideR (by unfold Bx; rw [hb1.block _ HBX.out.lt]; exact HBX.out)
  have HB1 := hideR (HB.out.trans (hb1.mono HB.out.size))
  clear hb1 HB HC HBX
  have q0 := HBX1.out.cell 0 _ rfl
  have q1 := HBX1.out.cell 1 _ rfl
  have q2 := HBX1.out.cell 2 _ rfl
  have q3 := HBX1.out.cell 3 _ rfl
  have q4 := HBX1.out.cell 4 _ rfl
  have q5 := HBX1.out.cell 5 _ rfl
  have q6 := HBX1.out.cell 6 _ rfl
  have q7 := HBX1.out.cell 7 _ rfl
  have q8 := HBX1.out.cell 8 _ rfl
  have q9 := HBX1.out.cell 9 _ rfl
  go_upto_region 5 with fail
  obtain ⟨w2, hw2⟩ : ∃ w2, w2 = ((w1.alloc (.cells #[.int .u8 0, .int .u8 97, .int .u8 115, .int .u8 109, .int .u8 1, .int .u8 0, .int .u8 0, .int .u8 0] 5 (8, 9))).alloc (.cells #[.slice o0 n0 k0, .slice o1 n1 k1, .slice o2 n2 k2, .slice o3 n3 k3, .slice o4 n4 k4, .slice o5 n5 k5, .slice o6 n6 k6, .slice o7 n7 k7, .slice o8 n8 k8, .slice o9 n9 k9, .slice (some ⟨w1.heap.size, 0, none⟩) 8 8] 67)) := ⟨_, rfl⟩
  have HN := hideR (HWN.out w1 HB1.out)
  rw [← hw2] at HN ⊢
  clear hw2 q0 q1 q2 q3 q4 q5 q6 q7 q8 q9 HBX1 HB1 HWN hkc
  have HS := hideR (HSEC.out (w1.heap.size + 1))
  clear HSEC
  generalize hp : w1.heap.size + 1 = p at HN HS ⊢
  generalize hg : w1.heap.size = g0 at *
  clear hp hg
  have HC := hideR (wSections p _ _ _ w2 (fun i hi => by rw [HN.out.fld i hi]; exact congrArg some (HCI.out i hi)))
  go_wp2_with fail
  refine HC.out.mono ?_
  rintro e w3 ⟨rfl, hsc, hb3⟩
  clear HC HCI
  have HBS : Hid (Bx w3 (w2.heap.size + 1) 72 (secCells p (ln m))) := hideR hsc
  have HNE : Hid (w2.heap.size + 1 ≠ p ∧ w2.heap.size + 1 ≠ g0) := hideR ⟨by have := HN.out.lt; omega, by
    obtain ⟨g, h1, _, _, h4⟩ := HN.out.row
    injection h1 with h1 _ _
    injection h1 with h1
    injection h1 with h1 _ _
    have := (Array.getElem?_eq_some_iff.1 h4).1
    omega⟩
  have HX3 : Hid (WX w p c (.slice (some ⟨g0, 0, none⟩) 8 8) headB w3) := hideR (.inr ⟨rfl, HN.out.on hb3⟩)
  clear hsc hb3 HN
  generalize w2.heap.size + 1 = gs at *
  go_wp2_with fail
  go_loopw [21] (fun i wr => ∃ (j : Nat) (v : Value) (b : List Int), j ≤ 11 ∧ i = .int .i64 j ∧ Hid (WX w p c v b wr) ∧ Hid (Kept p (.slice (some ⟨g0, 0, none⟩) 8 8) w3 v wr) ∧ Hid (So headB (fstB (sb m) j) b)) (fun i _ => 11 - (Lib.intOf i).toNat)
  case atStart => exact ⟨0, _, _, by omega, rfl, HX3, hideR (Kept.refl _ _ _), hideR (So.refl _)⟩
  case round =>
    clear HX3
    obtain ⟨j, v, b, hj, rfl, HX, HK, HSO⟩ := hrel
    by_cases hgo : j < 11
    · obtain ⟨id, n, F, f, e0, e1, e2, hid, hSI, hsb⟩ := HS.out j hgo
      obtain ⟨bS, _⟩ := HK.out.bx HBS.out HNE.out.1 (fun e => HNE.out.2 (by simpa [Value.ownBlock] using e))
      have z0 := bS.cell _ _ e0
      have z1 := bS.cell _ _ e1
      have z2 := bS.cell _ _ e2
      clear bS e0 e1 e2
      have hfs := fstB_le (sb m) (j + 1) 11 (by omega)
      have hfe : fstB (sb m) (j + 1) = fstB (sb m) j ++ secB id n (insideB id n f) := by show fstB (sb m) j ++ sb m j = _; rw [hsb]
      rw [hfe, List.length_append] at hfs
      have HFE := hideR hfe
      have hml := HMB.out
      rw [hml.1, List.length_append] at hml
      have hbl : b.length + (secB id n (insideB id n f)).length ≤ 38800000000000 := by have := HSO.out.2; omega
      obtain ⟨u1, hu1⟩ : ∃ u1, u1 = wr.alloc (.cells #[.int .i64 id, .int .i64 (n : Nat), .func (.func F) #[.pointer (some ⟨p, 0, none⟩)] #[]] 72) := ⟨_, rfl⟩
      have hbu : Below wr.heap.size wr u1 := by rw [hu1]; exact new_on' _ _
      have hbx : Bx u1 wr.heap.size 72 #[.int .i64 id, .int .i64 (n : Nat), .func (.func F) #[.pointer (some ⟨p, 0, none⟩)] #[]] := by rw [hu1]; exact Bx.new rfl
      have y0 := hbx.cell 0 _ rfl
      have y1 := hbx.cell 1 _ rfl
      have y2 := hbx.cell 2 _ rfl
      have HCS := hideR (wSec w p c id n F f v b u1 (HX.out.on hbu) hSI hid hbl)
      have HK1 := hideR (HK.out.trans (Kept.below (p := p) (v := v) hbu))
      have HU := hideR hu1
      clear hsb hfs hfe hml hbl hu1 hbu hbx hSI hid HX HK
      go_upto_region 8 with fail
      rw [← HU.out]
      clear HU z0 z1 z2
      generalize wr.heap.size = p3 at *
      go_wp2_with fail
      refine HCS.out.mono ?_
      rintro e w4 ⟨v4, b4, rfl, h4, k4, s4⟩
      have HX4 := hideR h4
      have HK4 := hideR (HK1.out.trans k4)
      have HSO4 : Hid (So headB (fstB (sb m) (j + 1)) b4) := hideR (by rw [HFE.out]; exact HSO.out.adds s4.1 s4.2)
      clear h4 k4 s4 HCS HK1 y0 y1 y2
      go_wp2
      go_roundw
      case rel => exact ⟨j + 1, v4, b4, by omega, by go_num, HX4, HK4, HSO4⟩
      case measure => simp [Lib.intOf]; omega
    · obtain rfl : j = 11 := by omega
      have hlb : headB.length ≤ b.length := HSO.out.1.le
      have HC := hideR (HX.out.told (by
        have h1 := HSO.out.2
        have h2 := HMB.out
        rw [h2.1, List.length_append] at h2
        omega) (by have : headB.length = 8 := rfl; omega))
      have ht : told b = .tuple #[.string S, .int .i64 E] := by rw [told_adds HSO.out.1, ← HMB.out.1]; exact HSE.out
      rw [ht] at HC
      have HBW := hideR HX.out.below
      clear hlb ht
      go_wp2_with fail
      refine HC.out.mono ?_
      rintro e w5 ⟨rfl, rfl⟩
      go_wp2
      go_ret2
      exact ⟨rfl, HBW.out⟩
end Go.Proofs.YtloelineidlenaaGreatDoor

namespace Go.Proofs.YtloelineidlenaaGreatDoor
open Go.RowKit Rep Enc Go.Lib
set_option linter.unusedVariables false
namespace Enc
def bodyM {d : Nat} (l : IL d) : Mod d := { types := [], imports := [], funcs := [{ type := 0, locals := [], body := l }], tables := [], mems := [], globals := [], exports := [], start := [], elems := [], datas := [] }
def bodA {d : Nat} (l : IL d) : Value := if chk (bodyM l) = 0 then told (bytesI d l ++ [11]) else .tuple #[.string ⟨#[]⟩, .int .i64 (chk (bodyM l))]
theorem row_nil {α : Type} {k : Nat} {f : Nat → Nat → α → Prop} : Row k f (.slice none 0 0) [] := ⟨by simp, .inl ⟨rfl, none, 0, rfl⟩⟩
theorem bodyM_at {d : Nat} {l : IL d} {lv : Value} {w w' : World} {b : Nat} (hA : At w d lv l) (hb : Below w.heap.size w w') (hx : Bx w' b 44 #[.int .i64 0, .slice none 0 0, lv]) :
    ModAt w' d (.slice none 0 0) (.slice none 0 0) (.slice (some ⟨b, 0, none⟩) 1 1) (.slice none 0 0) (.slice none 0 0) (.slice none 0 0) (.slice none 0 0) (.slice none 0 0) (.slice none 0 0) (.slice none 0 0) (bodyM l) :=
  ⟨row_nil, row_nil, ⟨by show 1 ≤ _; omega, .inr ⟨b, 0, 1, rfl, fun i x hi => by
    match i, hi with
    | 0, hi =>
      obtain rfl : ({ type := 0, locals := [], body := l } : Fun d) = x := by simpa [bodyM] using hi
      exact ⟨hx.cell 0 _ rfl, ⟨_, hx.cell 1 _ rfl, row_nil⟩, ⟨_, hx.cell 2 _ rfl, At.on hb d _ _ hA⟩⟩
    | i + 1, hi => simp [bodyM] at hi⟩⟩, row_nil, row_nil, row_nil, row_nil, row_nil, row_nil, row_nil⟩
theorem bodyM_ok {d : Nat} (l : IL d) (hd : d ≤ 4611686018427387904) : ModOk (.slice none 0 0) (.slice none 0 0) (bodyM l) :=
  ⟨hd, fun x hx => by simp [bodyM] at hx, ⟨fun x hx => by simp [bodyM] at hx, fun x hx => by simp [bodyM] at hx⟩, fun n c h => by injection h with _ _ h; exact h.symm, fun n c h => by injection h with _ _ h; exact h.symm⟩
end Enc
set_option maxRecDepth 100000 in
set_option maxHeartbeats 4000000 in
theorem pBody {I : World → Prop} (C : WastC I) (d : Nat) (lv : Value) (l : IL d) (w : World) (hI : I w) (hA : At w d lv l) (hd : d ≤ 4611686018427387904) (hR : chk (bodyM l) = 0 → Rg d l ∧ (bytesI d l).length ≤ 38000000000000) :
    Calls Tryz.prog 12 #[lv] w fun e w' => e = .returned (bodA l) ∧ Below w.heap.size w w' := by
  have hb := new_on' w (.cells #[.int .i64 0, .slice none 0 0, lv] 44)
  have hx := Bx.new (w := w) (b := w.heap.size) (t := 44) (cs := #[.int .i64 0, .slice none 0 0, lv]) rfl
  have HC := hideR (pCheckC C d _ _ _ _ _ _ _ _ _ _ (bodyM l) _ (C.keep hb hI) (bodyM_at hA hb hx) (bodyM_ok l hd))
  have HB := hideR hb
  have HI := hideR hI
  have HA := hideR hA
  obtain ⟨oL, kL, rfl⟩ := At.len d _ _ hA
  have HR := hideR hR
  unfold bodA
  clear hb hx hI hA hR
  generalize size d l = nl at *
  by_cases h0 : chk (bodyM l) = 0
  · rw [if_pos h0]
    obtain ⟨hR1, hR2⟩ := HR.out h0
    rw [h0] at HC
    obtain ⟨S, E, hSE⟩ : ∃ S E, told (bytesI d l ++ [11]) = .tuple #[.string S, .int .i64 E] := ⟨_, _, told_eq _⟩
    rw [hSE]
    have HSE := hideR hSE
    have HR1 := hideR hR1
    have HR2 := hideR hR2
    clear hSE hR1 hR2 HR
    go_enter Tryz.func12, Tryz.ntmps12
    go_wp2_with fail
    refine HC.out.mono ?_
    rintro e w1 ⟨rfl, hb1⟩
    have hb2 := HB.out.trans (hb1.mono HB.out.size)
    have HB2 := hideR hb2
    have HWS : Hid (WS w w1.heap.size (fun _ => .slice none 0 0) (.slice none 0 0) [] (w1.alloc (.cells #[.slice none 0 0, .slice none 0 0, .slice none 0 0, .slice none 0 0, .slice none 0 0, .slice none 0 0, .slice none 0 0, .slice none 0 0, .slice none 0 0, .slice none 0 0, .slice none 0 0] 67))) := hideR
      ⟨hb2.trans ((new_on' w1 _).mono hb2.size), hb2.size, heap_new w1 _, World.ownsRow_nil _ _ _ _, by simp [Value.ownBlock]⟩
    clear hb1 hb2 HC HB
    have HC := hideR (wExpr C.toFormC w HI.out w1.heap.size _ d _ l _ [] _ HWS.out HA.out HR1.out (by have := HR2.out; simp only [List.length_nil]; omega))
    go_wp2_with fail
    refine HC.out.mono ?_
    rintro e w3 ⟨v3, b3, rfl, h3, k3, a3, l3⟩
    have ht : told b3 = .tuple #[.string S, .int .i64 E] := by rw [told_adds a3, List.nil_append]; exact HSE.out
    have hl3 : 0 < b3.length := by
      rcases a3 with rfl | ⟨h, _⟩
      · simp
      · omega
    have HC2 := hideR (wTold w w1.heap.size _ v3 b3 w3 h3 (by have := HR2.out; simp only [List.length_append, List.length_cons, List.length_nil] at l3; omega) hl3)
    rw [ht] at HC2
    have HB3 := hideR h3.below
    clear HC h3 k3 a3 l3 ht hl3 HWS
    go_wp2_with fail
    refine HC2.out.mono ?_
    rintro e w4 ⟨rfl, rfl⟩
    go_wp2
    go_ret2
    exact ⟨rfl, HB3.out⟩
  · rw [if_neg h0]
    clear HR
    generalize chk (bodyM l) = r at *
    go_enter Tryz.func12, Tryz.ntmps12
    go_wp2_with fail
    refine HC.out.mono ?_
    rintro e w1 ⟨rfl, hb1⟩
    have HB1 := hideR (HB.out.trans (hb1.mono HB.out.size))
    clear hb1 HB HC
    go_wp2
    go_ret2
    exact ⟨rfl, HB1.out⟩
end Go.Proofs.YtloelineidlenaaGreatDoor

namespace Go.Proofs.YtloelineidlenaaGreatDoor
open Go.RowKit Rep
set_option linter.unusedVariables false
namespace Rep
theorem all_at {α : Type} {p : α → Bool} {l : List α} {j : Nat} {x : α} {R : Bool} (hx : l[j]? = some x) (h : R = (l.drop j).all p) : R = (p x && (l.drop (j + 1)).all p) := by
  have hl : j < l.length := (List.getElem?_eq_some_iff.1 hx).1
  have he : l[j] = x := (List.getElem?_eq_some_iff.1 hx).2
  rw [h, List.drop_eq_getElem_cons hl, he]; rfl
theorem all_past {α : Type} {p : α → Bool} {l : List α} {j : Nat} {R : Bool} (hj : l.length ≤ j) (h : R = (l.drop j).all p) : R = true := by
  rw [h, List.drop_of_length_le hj]; rfl
end Rep
set_option maxHeartbeats 2000000 in
theorem refLimits (v : Value) (l : List Lim) (w : World) (hAt : Row 3 (LimAt w) v l) :
    Calls Tryz.prog 103 #[v] w fun e w' => e = .returned (.bool (l.all shL)) ∧ w' = w := by
  have hlen := hAt.1
  obtain ⟨o, cap, hv⟩ := Row.len hAt
  have HA := hideR hAt
  subst hv
  obtain ⟨R, hR⟩ : ∃ R, R = l.all shL := ⟨_, rfl⟩
  rw [← hR]
  have HR : Hid (R = (l.drop 0).all shL) := hR
  clear hAt hR
  generalize hn : l.length = n at *
  go_enter Tryz.func103, Tryz.ntmps103
  go_wp2_with fail
  go_loopw [3] (fun i wr => ∃ j : Nat, j ≤ n ∧ i = .int .i64 j ∧ Hid (R = (l.drop j).all shL) ∧ wr = w) (fun i _ => n - (RowKit.intOf i).toNat)
  case atStart => exact ⟨0, by omega, rfl, HR, rfl⟩
  case round =>
    obtain ⟨j, hj, rfl, HK, rfl⟩ := hrel
    by_cases hgo : j < n
    · obtain ⟨b, off, cap2, hv2, hx⟩ := Row.some HA.out (by omega)
      injection hv2 with ho h2 h3
      subst ho
      obtain ⟨x, hxk⟩ : ∃ x, l[j]? = some x := ⟨_, List.getElem?_eq_getElem (by omega)⟩
      have hI := hx j x hxk
      have k0 := hI.min
      have k1 := hI.max
      have k2 := hI.has
      have HN : Hid (R = (shL x && (l.drop (j + 1)).all shL)) := hideR (all_at hxk HK.out)
      have HSx : Hid (shL x = ((idx x.min && (idx x.max && true)) && (x.has || x.max == 0))) := hideR rfl
      clear hx hxk hI h2 h3 HK
      rw [HSx.out] at HN
      clear HSx
      go_wp2_with fail
      refine (refIndex _ _).mono ?_
      rintro e u ⟨rfl, rfl⟩
      generalize idx x.min = t1 at *
      cases t1 with
      | false =>
        obtain rfl : R = false := HN.out
        clear HN
        go_wp2
        go_ret
        exact ⟨rfl, rfl⟩
      | true =>
        go_wp2_with fail
        refine (refIndex _ _).mono ?_
        rintro e u ⟨rfl, rfl⟩
        generalize idx x.max = t2 at *
        cases t2 with
        | false =>
          obtain rfl : R = false := HN.out
          clear HN
          go_wp2
          go_ret
          exact ⟨rfl, rfl⟩
        | true =>
          generalize hxh : x.has = hs at *
          generalize hxm : x.max = mx at *
          cases hs with
          | true =>
            have HN2 : Hid (R = (l.drop (j + 1)).all shL) := hideR (by rw [HN.out]; rfl)
            clear HN
            go_wp2
            go_roundw
            case rel => exact ⟨j + 1, by omega, by go_num, HN2, trivial⟩
            case measure => simp [RowKit.intOf]; omega
          | false =>
            by_cases hm : mx = 0
            · subst hm
              have HN2 : Hid (R = (l.drop (j + 1)).all shL) := hideR (by rw [HN.out]; rfl)
              clear HN
              go_wp2
              go_roundw
              case rel => exact ⟨j + 1, by omega, by go_num, HN2, trivial⟩
              case measure => simp [RowKit.intOf]; omega
            · have hmf : (mx == 0) = false := by rw [beq_eq_false_iff_ne]; exact hm
              have hmt : (mx != 0) = true := by rw [bne_iff_ne]; exact hm
              obtain rfl : R = false := by rw [HN.out, hmf]; rfl
              clear HN
              go_wp2
              go_ret
              exact ⟨rfl, rfl⟩
    · obtain rfl : R = true := all_past (by omega) HK.out
      clear HK
      go_wp2
      go_ret
      exact ⟨rfl, rfl⟩
end Go.Proofs.YtloelineidlenaaGreatDoor

namespace Go.Proofs.YtloelineidlenaaGreatDoor
open Go.RowKit Rep
set_option linter.unusedVariables false
namespace Rep
theorem form_const (op : Int) (h : form op ≠ 9) : op ≠ 65 ∧ op ≠ 66 := by
  constructor
  · rintro rfl; exact h (by decide)
  · rintro rfl; exact h (by decide)
end Rep

set_option maxHeartbeats 2000000 in
theorem refOne0 (op a b n : Int) (ls : List Int) (lo bo eo : Option Addr) (nl nb ne lc bc ec : Nat) (w : World) (hf : form op = 0) (hl : Ints w (.slice lo nl lc) ls) (hnl : ls.length = nl) :
    Calls Tryz.prog 123 #[.agg #[.int .i64 op, .int .i64 a, .int .i64 b, .int .i64 n, .slice lo nl lc, .slice bo nb bc, .slice eo ne ec]] w fun e w' => e = .returned (.bool false) ∧ Below w.heap.size w w' := by
  have hlen := hl.1
  have HL := hideM hl
  have HF := hideM hf
  have HNL := hideM hnl
  rw [hnl] at hlen
  clear hl hf hnl
  go_enter Tryz.func123, Tryz.ntmps123
  go_wp2_with fail
  refine (refForm _ _).mono ?_
  rintro e u ⟨rfl, rfl⟩
  rw [HF.out]
  go_wp2
  go_ret
  exact ⟨rfl, (Below.refl _ w).alloc (Nat.le_refl _) _⟩

set_option maxHeartbeats 2000000 in
theorem refOne1xa (op a b n : Int) (ls : List Int) (lo bo eo : Option Addr) (nl nb ne lc bc ec : Nat) (w : World) (hf : form op = 1) (hl : Ints w (.slice lo nl lc) ls) (hnl : ls.length = nl) (d0 : (a != 0) = true) :
    Calls Tryz.prog 123 #[.agg #[.int .i64 op, .int .i64 a, .int .i64 b, .int .i64 n, .slice lo nl lc, .slice bo nb bc, .slice eo ne ec]] w fun e w' => e = .returned (.bool false) ∧ Below w.heap.size w w' := by
  have hlen := hl.1
  have HL := hideM hl
  have HF := hideM hf
  have HNL := hideM hnl
  rw [hnl] at hlen
  clear hl hf hnl
  go_enter Tryz.func123, Tryz.ntmps123
  go_wp2_with fail
  refine (refForm _ _).mono ?_
  rintro e u ⟨rfl, rfl⟩
  rw [HF.out]
  go_wp2
  go_ret
  exact ⟨rfl, (Below.refl _ w).alloc (Nat.le_refl _) _⟩

set_option maxHeartbeats 2000000 in
theorem refOne1xb (op a b n : Int) (ls : List Int) (lo bo eo : Option Addr) (nl nb ne lc bc ec : Nat) (w : World) (hf : form op = 1) (hl : Ints w (.slice lo nl lc) ls) (hnl : ls.length = nl) (d0 : (a != 0) = false) (d1 : (b != 0) = true) :
    Calls Tryz.prog 123 #[.agg #[.int .i64 op, .int .i64 a, .int .i64 b, .int .i64 n, .slice lo nl lc, .slice bo nb bc, .slice eo ne ec]] w fun e w' => e = .returned (.bool false) ∧ Below w.heap.size w w' := by
  have hlen := hl.1
  have HL := hideM hl
  have HF := hideM hf
  have HNL := hideM hnl
  rw [hnl] at hlen
  clear hl hf hnl
  go_enter Tryz.func123, Tryz.ntmps123
  go_wp2_with fail
  refine (refForm _ _).mono ?_
  rintro e u ⟨rfl, rfl⟩
  rw [HF.out]
  go_wp2
  go_ret
  exact ⟨rfl, (Below.refl _ w).alloc (Nat.le_refl _) _⟩

set_option maxHeartbeats 2000000 in
theorem refOne1xn (op a b n : Int) (ls : List Int) (lo bo eo : Option Addr) (nl nb ne lc bc ec : Nat) (w : World) (hf : form op = 1) (hl : Ints w (.slice lo nl lc) ls) (hnl : ls.length = nl) (d0 : (a != 0) = false) (d1 : (b != 0) = false) (d2 : (n != 0) = true) :
    Calls Tryz.prog 123 #[.agg #[.int .i64 op, .int .i64 a, .int .i64 b, .int .i64 n, .slice lo nl lc, .slice bo nb bc, .slice eo ne ec]] w fun e w' => e = .returned (.bool false) ∧ Below w.heap.size w w' := by
  have hlen := hl.1
  have HL := hideM hl
  have HF := hideM hf
  have HNL := hideM hnl
  rw [hnl] at hlen
  clear hl hf hnl
  go_enter Tryz.func123, Tryz.ntmps123
  go_wp2_with fail
  refine (refForm _ _).mono ?_
  rintro e u ⟨rfl, rfl⟩
  rw [HF.out]
  go_wp2
  go_ret
  exact ⟨rfl, (Below.refl _ w).alloc (Nat.le_refl _) _⟩

set_option maxHeartbeats 2000000 in
theorem refOne1xlabels (op a b n : Int) (ls : List Int) (lo bo eo : Option Addr) (nl nb ne lc bc ec : Nat) (w : World) (hf : form op = 1) (hl : Ints w (.slice lo nl lc) ls) (hnl : ls.length = nl) (d0 : (a != 0) = false) (d1 : (b != 0) = false) (d2 : (n != 0) = false) (d3 : 0 < nl) :
    Calls Tryz.prog 123 #[.agg #[.int .i64 op, .int .i64 a, .int .i64 b, .int .i64 n, .slice lo nl lc, .slice bo nb bc, .slice eo ne ec]] w fun e w' => e = .returned (.bool false) ∧ Below w.heap.size w w' := by
  have hlen := hl.1
  have HL := hideM hl
  have HF := hideM hf
  have HNL := hideM hnl
  rw [hnl] at hlen
  clear hl hf hnl
  have d3a : ¬ nl = 0 := by omega
  have d3b : (0 : Int) < (nl : Int) := by omega
  go_enter Tryz.func123, Tryz.ntmps123
  go_wp2_with fail
  refine (refForm _ _).mono ?_
  rintro e u ⟨rfl, rfl⟩
  rw [HF.out]
  go_wp2
  go_ret
  exact ⟨rfl, (Below.refl _ w).alloc (Nat.le_refl _) _⟩

set_option maxHeartbeats 2000000 in
theorem refOne1xbody (op a b n : Int) (ls : List Int) (lo bo eo : Option Addr) (nl nb ne lc bc ec : Nat) (w : World) (hf : form op = 1) (hl : Ints w (.slice lo nl lc) ls) (hnl : ls.length = nl) (d0 : (a != 0) = false) (d1 : (b != 0) = false) (d2 : (n != 0) = false) (d3 : nl = 0) (d4 : 0 < nb) :
    Calls Tryz.prog 123 #[.agg #[.int .i64 op, .int .i64 a, .int .i64 b, .int .i64 n, .slice lo nl lc, .slice bo nb bc, .slice eo ne ec]] w fun e w' => e = .returned (.bool false) ∧ Below w.heap.size w w' := by
  have hlen := hl.1
  have HL := hideM hl
  have HF := hideM hf
  have HNL := hideM hnl
  rw [hnl] at hlen
  clear hl hf hnl
  have d4a : ¬ nb = 0 := by omega
  have d4b : (0 : Int) < (nb : Int) := by omega
  subst d3
  go_enter Tryz.func123, Tryz.ntmps123
  go_wp2_with fail
  refine (refForm _ _).mono ?_
  rintro e u ⟨rfl, rfl⟩
  rw [HF.out]
  go_wp2
  go_ret
  exact ⟨rfl, (Below.refl _ w).alloc (Nat.le_refl _) _⟩

set_option maxHeartbeats 2000000 in
theorem refOne1xels (op a b n : Int) (ls : List Int) (lo bo eo : Option Addr) (nl nb ne lc bc ec : Nat) (w : World) (hf : form op = 1) (hl : Ints w (.slice lo nl lc) ls) (hnl : ls.length = nl) (d0 : (a != 0) = false) (d1 : (b != 0) = false) (d2 : (n != 0) = false) (d3 : nl = 0) (d4 : nb = 0) (d5 : 0 < ne) :
    Calls Tryz.prog 123 #[.agg #[.int .i64 op, .int .i64 a, .int .i64 b, .int .i64 n, .slice lo nl lc, .slice bo nb bc, .slice eo ne ec]] w fun e w' => e = .returned (.bool false) ∧ Below w.heap.size w w' := by
  have hlen := hl.1
  have HL := hideM hl
  have HF := hideM hf
  have HNL := hideM hnl
  rw [hnl] at hlen
  clear hl hf hnl
  have d5a : ¬ ne = 0 := by omega
  have d5b : (0 : Int) < (ne : Int) := by omega
  subst d3
  subst d4
  go_enter Tryz.func123, Tryz.ntmps123
  go_wp2_with fail
  refine (refForm _ _).mono ?_
  rintro e u ⟨rfl, rfl⟩
  rw [HF.out]
  go_wp2
  go_ret
  exact ⟨rfl, (Below.refl _ w).alloc (Nat.le_refl _) _⟩

set_option maxHeartbeats 2000000 in
theorem refOne1e (op a b n : Int) (ls : List Int) (lo bo eo : Option Addr) (nl nb ne lc bc ec : Nat) (w : World) (hf : form op = 1) (hl : Ints w (.slice lo nl lc) ls) (hnl : ls.length = nl) (d0 : (a != 0) = false) (d1 : (b != 0) = false) (d2 : (n != 0) = false) (d3 : nl = 0) (d4 : nb = 0) (d5 : ne = 0) (s1 : ¬ op = 65) :
    Calls Tryz.prog 123 #[.agg #[.int .i64 op, .int .i64 a, .int .i64 b, .int .i64 n, .slice lo nl lc, .slice bo nb bc, .slice eo ne ec]] w fun e w' => e = .returned (.bool (idx a && (idx b && ls.all idx))) ∧ Below w.heap.size w w' := by
  have hlen := hl.1
  have HL := hideM hl
  have HF := hideM hf
  have HNL := hideM hnl
  rw [hnl] at hlen
  clear hl hf hnl
  subst d3
  subst d4
  subst d5
  have s1b : (op == 65) = false := by simp [s1]
  have i1 := hideM fun (w : World) => refIndex a w
  have i2 := hideM fun (w : World) => refIndex b w
  have i3 := hideM fun (w' : World) (h : Below w.heap.size w w') => refIndices _ ls w' (HL.out.on h)
  generalize idx a = r1 at *
  generalize idx b = r2 at *
  generalize ls.all idx = r3 at *
  go_enter Tryz.func123, Tryz.ntmps123
  go_wp2_with fail
  refine (refForm _ _).mono ?_
  rintro e u ⟨rfl, rfl⟩
  rw [HF.out]
  go_wp2_with fail
  refine (i1.out _).mono ?_
  rintro e u ⟨rfl, rfl⟩
  cases r1
  · go_wp2
    go_ret
    exact ⟨rfl, (Below.refl _ w).alloc (Nat.le_refl _) _⟩
  · go_wp2_with fail
    refine (i2.out _).mono ?_
    rintro e u ⟨rfl, rfl⟩
    cases r2
    · go_wp2
      go_ret
      exact ⟨rfl, (Below.refl _ w).alloc (Nat.le_refl _) _⟩
    · go_wp2_with fail
      refine (i3.out _ ((Below.refl _ w).alloc (Nat.le_refl _) _)).mono ?_
      rintro e u ⟨rfl, rfl⟩
      go_wp2
      go_ret
      exact ⟨rfl, (Below.refl _ w).alloc (Nat.le_refl _) _⟩

set_option maxHeartbeats 2000000 in
theorem refOne2xb (op a b n : Int) (ls : List Int) (lo bo eo : Option Addr) (nl nb ne lc bc ec : Nat) (w : World) (hf : form op = 2) (hl : Ints w (.slice lo nl lc) ls) (hnl : ls.length = nl) (d0 : (b != 0) = true) :
    Calls Tryz.prog 123 #[.agg #[.int .i64 op, .int .i64 a, .int .i64 b, .int .i64 n, .slice lo nl lc, .slice bo nb bc, .slice eo ne ec]] w fun e w' => e = .returned (.bool false) ∧ Below w.heap.size w w' := by
  have hlen := hl.1
  have HL := hideM hl
  have HF := hideM hf
  have HNL := hideM hnl
  rw [hnl] at hlen
  clear hl hf hnl
  go_enter Tryz.func123, Tryz.ntmps123
  go_wp2_with fail
  refine (refForm _ _).mono ?_
  rintro e u ⟨rfl, rfl⟩
  rw [HF.out]
  go_wp2
  go_ret
  exact ⟨rfl, (Below.refl _ w).alloc (Nat.le_refl _) _⟩

set_option maxHeartbeats 2000000 in
theorem refOne2xn (op a b n : Int) (ls : List Int) (lo bo eo : Option Addr) (nl nb ne lc bc ec : Nat) (w : World) (hf : form op = 2) (hl : Ints w (.slice lo nl lc) ls) (hnl : ls.length = nl) (d0 : (b != 0) = false) (d1 : (n != 0) = true) :
    Calls Tryz.prog 123 #[.agg #[.int .i64 op, .int .i64 a, .int .i64 b, .int .i64 n, .slice lo nl lc, .slice bo nb bc, .slice eo ne ec]] w fun e w' => e = .returned (.bool false) ∧ Below w.heap.size w w' := by
  have hlen := hl.1
  have HL := hideM hl
  have HF := hideM hf
  have HNL := hideM hnl
  rw [hnl] at hlen
  clear hl hf hnl
  go_enter Tryz.func123, Tryz.ntmps123
  go_wp2_with fail
  refine (refForm _ _).mono ?_
  rintro e u ⟨rfl, rfl⟩
  rw [HF.out]
  go_wp2
  go_ret
  exact ⟨rfl, (Below.refl _ w).alloc (Nat.le_refl _) _⟩

set_option maxHeartbeats 2000000 in
theorem refOne2xlabels (op a b n : Int) (ls : List Int) (lo bo eo : Option Addr) (nl nb ne lc bc ec : Nat) (w : World) (hf : form op = 2) (hl : Ints w (.slice lo nl lc) ls) (hnl : ls.length = nl) (d0 : (b != 0) = false) (d1 : (n != 0) = false) (d2 : 0 < nl) :
    Calls Tryz.prog 123 #[.agg #[.int .i64 op, .int .i64 a, .int .i64 b, .int .i64 n, .slice lo nl lc, .slice bo nb bc, .slice eo ne ec]] w fun e w' => e = .returned (.bool false) ∧ Below w.heap.size w w' := by
  have hlen := hl.1
  have HL := hideM hl
  have HF := hideM hf
  have HNL := hideM hnl
  rw [hnl] at hlen
  clear hl hf hnl
  have d2a : ¬ nl = 0 := by omega
  have d2b : (0 : Int) < (nl : Int) := by omega
  go_enter Tryz.func123, Tryz.ntmps123
  go_wp2_with fail
  refine (refForm _ _).mono ?_
  rintro e u ⟨rfl, rfl⟩
  rw [HF.out]
  go_wp2
  go_ret
  exact ⟨rfl, (Below.refl _ w).alloc (Nat.le_refl _) _⟩

set_option maxHeartbeats 2000000 in
theorem refOne2xels (op a b n : Int) (ls : List Int) (lo bo eo : Option Addr) (nl nb ne lc bc ec : Nat) (w : World) (hf : form op = 2) (hl : Ints w (.slice lo nl lc) ls) (hnl : ls.length = nl) (d0 : (b != 0) = false) (d1 : (n != 0) = false) (d2 : nl = 0) (d3 : 0 < ne) :
    Calls Tryz.prog 123 #[.agg #[.int .i64 op, .int .i64 a, .int .i64 b, .int .i64 n, .slice lo nl lc, .slice bo nb bc, .slice eo ne ec]] w fun e w' => e = .returned (.bool false) ∧ Below w.heap.size w w' := by
  have hlen := hl.1
  have HL := hideM hl
  have HF := hideM hf
  have HNL := hideM hnl
  rw [hnl] at hlen
  clear hl hf hnl
  have d3a : ¬ ne = 0 := by omega
  have d3b : (0 : Int) < (ne : Int) := by omega
  subst d2
  go_enter Tryz.func123, Tryz.ntmps123
  go_wp2_with fail
  refine (refForm _ _).mono ?_
  rintro e u ⟨rfl, rfl⟩
  rw [HF.out]
  go_wp2
  go_ret
  exact ⟨rfl, (Below.refl _ w).alloc (Nat.le_refl _) _⟩

set_option maxHeartbeats 2000000 in
theorem refOne2z (op a b n : Int) (ls : List Int) (lo bo eo : Option Addr) (nl nb ne lc bc ec : Nat) (w : World) (hf : form op = 2) (hl : Ints w (.slice lo nl lc) ls) (hnl : ls.length = nl) (d0 : (b != 0) = false) (d1 : (n != 0) = false) (d2 : nl = 0) (d3 : ne = 0) (e1 : (a == 0) = true) :
    Calls Tryz.prog 123 #[.agg #[.int .i64 op, .int .i64 a, .int .i64 b, .int .i64 n, .slice lo nl lc, .slice bo nb bc, .slice eo ne ec]] w fun e w' => e = .returned (.bool true) ∧ Below w.heap.size w w' := by
  have hlen := hl.1
  have HL := hideM hl
  have HF := hideM hf
  have HNL := hideM hnl
  rw [hnl] at hlen
  clear hl hf hnl
  subst d2
  subst d3
  go_enter Tryz.func123, Tryz.ntmps123
  go_wp2_with fail
  refine (refForm _ _).mono ?_
  rintro e u ⟨rfl, rfl⟩
  rw [HF.out]
  go_wp2
  go_ret
  exact ⟨rfl, (Below.refl _ w).alloc (Nat.le_refl _) _⟩

set_option maxHeartbeats 2000000 in
theorem refOne2y (op a b n : Int) (ls : List Int) (lo bo eo : Option Addr) (nl nb ne lc bc ec : Nat) (w : World) (hf : form op = 2) (hl : Ints w (.slice lo nl lc) ls) (hnl : ls.length = nl) (d0 : (b != 0) = false) (d1 : (n != 0) = false) (d2 : nl = 0) (d3 : ne = 0) (e1 : (a == 0) = false) (e2 : (a == 126) = true) :
    Calls Tryz.prog 123 #[.agg #[.int .i64 op, .int .i64 a, .int .i64 b, .int .i64 n, .slice lo nl lc, .slice bo nb bc, .slice eo ne ec]] w fun e w' => e = .returned (.bool true) ∧ Below w.heap.size w w' := by
  have hlen := hl.1
  have HL := hideM hl
  have HF := hideM hf
  have HNL := hideM hnl
  rw [hnl] at hlen
  clear hl hf hnl
  subst d2
  subst d3
  go_enter Tryz.func123, Tryz.ntmps123
  go_wp2_with fail
  refine (refForm _ _).mono ?_
  rintro e u ⟨rfl, rfl⟩
  rw [HF.out]
  go_wp2
  go_ret
  exact ⟨rfl, (Below.refl _ w).alloc (Nat.le_refl _) _⟩

set_option maxHeartbeats 2000000 in
theorem refOne2w (op a b n : Int) (ls : List Int) (lo bo eo : Option Addr) (nl nb ne lc bc ec : Nat) (w : World) (hf : form op = 2) (hl : Ints w (.slice lo nl lc) ls) (hnl : ls.length = nl) (d0 : (b != 0) = false) (d1 : (n != 0) = false) (d2 : nl = 0) (d3 : ne = 0) (e1 : (a == 0) = false) (e2 : (a == 126) = false) :
    Calls Tryz.prog 123 #[.agg #[.int .i64 op, .int .i64 a, .int .i64 b, .int .i64 n, .slice lo nl lc, .slice bo nb bc, .slice eo ne ec]] w fun e w' => e = .returned (.bool (a == 127)) ∧ Below w.heap.size w w' := by
  have hlen := hl.1
  have HL := hideM hl
  have HF := hideM hf
  have HNL := hideM hnl
  rw [hnl] at hlen
  clear hl hf hnl
  subst d2
  subst d3
  go_enter Tryz.func123, Tryz.ntmps123
  go_wp2_with fail
  refine (refForm _ _).mono ?_
  rintro e u ⟨rfl, rfl⟩
  rw [HF.out]
  go_wp2
  go_ret
  exact ⟨rfl, (Below.refl _ w).alloc (Nat.le_refl _) _⟩

set_option maxHeartbeats 2000000 in
theorem refOne3xb (op a b n : Int) (ls : List Int) (lo bo eo : Option Addr) (nl nb ne lc bc ec : Nat) (w : World) (hf : form op = 3) (hl : Ints w (.slice lo nl lc) ls) (hnl : ls.length = nl) (d0 : (b != 0) = true) :
    Calls Tryz.prog 123 #[.agg #[.int .i64 op, .int .i64 a, .int .i64 b, .int .i64 n, .slice lo nl lc, .slice bo nb bc, .slice eo ne ec]] w fun e w' => e = .returned (.bool false) ∧ Below w.heap.size w w' := by
  have hlen := hl.1
  have HL := hideM hl
  have HF := hideM hf
  have HNL := hideM hnl
  rw [hnl] at hlen
  clear hl hf hnl
  go_enter Tryz.func123, Tryz.ntmps123
  go_wp2_with fail
  refine (refForm _ _).mono ?_
  rintro e u ⟨rfl, rfl⟩
  rw [HF.out]
  go_wp2
  go_ret
  exact ⟨rfl, (Below.refl _ w).alloc (Nat.le_refl _) _⟩

set_option maxHeartbeats 2000000 in
theorem refOne3xn (op a b n : Int) (ls : List Int) (lo bo eo : Option Addr) (nl nb ne lc bc ec : Nat) (w : World) (hf : form op = 3) (hl : Ints w (.slice lo nl lc) ls) (hnl : ls.length = nl) (d0 : (b != 0) = false) (d1 : (n != 0) = true) :
    Calls Tryz.prog 123 #[.agg #[.int .i64 op, .int .i64 a, .int .i64 b, .int .i64 n, .slice lo nl lc, .slice bo nb bc, .slice eo ne ec]] w fun e w' => e = .returned (.bool false) ∧ Below w.heap.size w w' := by
  have hlen := hl.1
  have HL := hideM hl
  have HF := hideM hf
  have HNL := hideM hnl
  rw [hnl] at hlen
  clear hl hf hnl
  go_enter Tryz.func123, Tryz.ntmps123
  go_wp2_with fail
  refine (refForm _ _).mono ?_
  rintro e u ⟨rfl, rfl⟩
  rw [HF.out]
  go_wp2
  go_ret
  exact ⟨rfl, (Below.refl _ w).alloc (Nat.le_refl _) _⟩

set_option maxHeartbeats 2000000 in
theorem refOne3xlabels (op a b n : Int) (ls : List Int) (lo bo eo : Option Addr) (nl nb ne lc bc ec : Nat) (w : World) (hf : form op = 3) (hl : Ints w (.slice lo nl lc) ls) (hnl : ls.length = nl) (d0 : (b != 0) = false) (d1 : (n != 0) = false) (d2 : 0 < nl) :
    Calls Tryz.prog 123 #[.agg #[.int .i64 op, .int .i64 a, .int .i64 b, .int .i64 n, .slice lo nl lc, .slice bo nb bc, .slice eo ne ec]] w fun e w' => e = .returned (.bool false) ∧ Below w.heap.size w w' := by
  have hlen := hl.1
  have HL := hideM hl
  have HF := hideM hf
  have HNL := hideM hnl
  rw [hnl] at hlen
  clear hl hf hnl
  have d2a : ¬ nl = 0 := by omega
  have d2b : (0 : Int) < (nl : Int) := by omega
  go_enter Tryz.func123, Tryz.ntmps123
  go_wp2_with fail
  refine (refForm _ _).mono ?_
  rintro e u ⟨rfl, rfl⟩
  rw [HF.out]
  go_wp2
  go_ret
  exact ⟨rfl, (Below.refl _ w).alloc (Nat.le_refl _) _⟩

set_option maxHeartbeats 2000000 in
theorem refOne3z (op a b n : Int) (ls : List Int) (lo bo eo : Option Addr) (nl nb ne lc bc ec : Nat) (w : World) (hf : form op = 3) (hl : Ints w (.slice lo nl lc) ls) (hnl : ls.length = nl) (d0 : (b != 0) = false) (d1 : (n != 0) = false) (d2 : nl = 0) (e1 : (a == 0) = true) :
    Calls Tryz.prog 123 #[.agg #[.int .i64 op, .int .i64 a, .int .i64 b, .int .i64 n, .slice lo nl lc, .slice bo nb bc, .slice eo ne ec]] w fun e w' => e = .returned (.bool true) ∧ Below w.heap.size w w' := by
  have hlen := hl.1
  have HL := hideM hl
  have HF := hideM hf
  have HNL := hideM hnl
  rw [hnl] at hlen
  clear hl hf hnl
  subst d2
  go_enter Tryz.func123, Tryz.ntmps123
  go_wp2_with fail
  refine (refForm _ _).mono ?_
  rintro e u ⟨rfl, rfl⟩
  rw [HF.out]
  go_wp2
  go_ret
  exact ⟨rfl, (Below.refl _ w).alloc (Nat.le_refl _) _⟩

set_option maxHeartbeats 2000000 in
theorem refOne3y (op a b n : Int) (ls : List Int) (lo bo eo : Option Addr) (nl nb ne lc bc ec : Nat) (w : World) (hf : form op = 3) (hl : Ints w (.slice lo nl lc) ls) (hnl : ls.length = nl) (d0 : (b != 0) = false) (d1 : (n != 0) = false) (d2 : nl = 0) (e1 : (a == 0) = false) (e2 : (a == 126) = true) :
    Calls Tryz.prog 123 #[.agg #[.int .i64 op, .int .i64 a, .int .i64 b, .int .i64 n, .slice lo nl lc, .slice bo nb bc, .slice eo ne ec]] w fun e w' => e = .returned (.bool true) ∧ Below w.heap.size w w' := by
  have hlen := hl.1
  have HL := hideM hl
  have HF := hideM hf
  have HNL := hideM hnl
  rw [hnl] at hlen
  clear hl hf hnl
  subst d2
  go_enter Tryz.func123, Tryz.ntmps123
  go_wp2_with fail
  refine (refForm _ _).mono ?_
  rintro e u ⟨rfl, rfl⟩
  rw [HF.out]
  go_wp2
  go_ret
  exact ⟨rfl, (Below.refl _ w).alloc (Nat.le_refl _) _⟩

set_option maxHeartbeats 2000000 in
theorem refOne3w (op a b n : Int) (ls : List Int) (lo bo eo : Option Addr) (nl nb ne lc bc ec : Nat) (w : World) (hf : form op = 3) (hl : Ints w (.slice lo nl lc) ls) (hnl : ls.length = nl) (d0 : (b != 0) = false) (d1 : (n != 0) = false) (d2 : nl = 0) (e1 : (a == 0) = false) (e2 : (a == 126) = false) :
    Calls Tryz.prog 123 #[.agg #[.int .i64 op, .int .i64 a, .int .i64 b, .int .i64 n, .slice lo nl lc, .slice bo nb bc, .slice eo ne ec]] w fun e w' => e = .returned (.bool (a == 127)) ∧ Below w.heap.size w w' := by
  have hlen := hl.1
  have HL := hideM hl
  have HF := hideM hf
  have HNL := hideM hnl
  rw [hnl] at hlen
  clear hl hf hnl
  subst d2
  go_enter Tryz.func123, Tryz.ntmps123
  go_wp2_with fail
  refine (refForm _ _).mono ?_
  rintro e u ⟨rfl, rfl⟩
  rw [HF.out]
  go_wp2
  go_ret
  exact ⟨rfl, (Below.refl _ w).alloc (Nat.le_refl _) _⟩

set_option maxHeartbeats 2000000 in
theorem refOne4xb (op a b n : Int) (ls : List Int) (lo bo eo : Option Addr) (nl nb ne lc bc ec : Nat) (w : World) (hf : form op = 4) (hl : Ints w (.slice lo nl lc) ls) (hnl : ls.length = nl) (d0 : (b != 0) = true) :
    Calls Tryz.prog 123 #[.agg #[.int .i64 op, .int .i64 a, .int .i64 b, .int .i64 n, .slice lo nl lc, .slice bo nb bc, .slice eo ne ec]] w fun e w' => e = .returned (.bool false) ∧ Below w.heap.size w w' := by
  have hlen := hl.1
  have HL := hideM hl
  have HF := hideM hf
  have HNL := hideM hnl
  rw [hnl] at hlen
  clear hl hf hnl
  go_enter Tryz.func123, Tryz.ntmps123
  go_wp2_with fail
  refine (refForm _ _).mono ?_
  rintro e u ⟨rfl, rfl⟩
  rw [HF.out]
  go_wp2
  go_ret
  exact ⟨rfl, (Below.refl _ w).alloc (Nat.le_refl _) _⟩

set_option maxHeartbeats 2000000 in
theorem refOne4xn (op a b n : Int) (ls : List Int) (lo bo eo : Option Addr) (nl nb ne lc bc ec : Nat) (w : World) (hf : form op = 4) (hl : Ints w (.slice lo nl lc) ls) (hnl : ls.length = nl) (d0 : (b != 0) = false) (d1 : (n != 0) = true) :
    Calls Tryz.prog 123 #[.agg #[.int .i64 op, .int .i64 a, .int .i64 b, .int .i64 n, .slice lo nl lc, .slice bo nb bc, .slice eo ne ec]] w fun e w' => e = .returned (.bool false) ∧ Below w.heap.size w w' := by
  have hlen := hl.1
  have HL := hideM hl
  have HF := hideM hf
  have HNL := hideM hnl
  rw [hnl] at hlen
  clear hl hf hnl
  go_enter Tryz.func123, Tryz.ntmps123
  go_wp2_with fail
  refine (refForm _ _).mono ?_
  rintro e u ⟨rfl, rfl⟩
  rw [HF.out]
  go_wp2
  go_ret
  exact ⟨rfl, (Below.refl _ w).alloc (Nat.le_refl _) _⟩

set_option maxHeartbeats 2000000 in
theorem refOne4xlabels (op a b n : Int) (ls : List Int) (lo bo eo : Option Addr) (nl nb ne lc bc ec : Nat) (w : World) (hf : form op = 4) (hl : Ints w (.slice lo nl lc) ls) (hnl : ls.length = nl) (d0 : (b != 0) = false) (d1 : (n != 0) = false) (d2 : 0 < nl) :
    Calls Tryz.prog 123 #[.agg #[.int .i64 op, .int .i64 a, .int .i64 b, .int .i64 n, .slice lo nl lc, .slice bo nb bc, .slice eo ne ec]] w fun e w' => e = .returned (.bool false) ∧ Below w.heap.size w w' := by
  have hlen := hl.1
  have HL := hideM hl
  have HF := hideM hf
  have HNL := hideM hnl
  rw [hnl] at hlen
  clear hl hf hnl
  have d2a : ¬ nl = 0 := by omega
  have d2b : (0 : Int) < (nl : Int) := by omega
  go_enter Tryz.func123, Tryz.ntmps123
  go_wp2_with fail
  refine (refForm _ _).mono ?_
  rintro e u ⟨rfl, rfl⟩
  rw [HF.out]
  go_wp2
  go_ret
  exact ⟨rfl, (Below.refl _ w).alloc (Nat.le_refl _) _⟩

set_option maxHeartbeats 2000000 in
theorem refOne4xbody (op a b n : Int) (ls : List Int) (lo bo eo : Option Addr) (nl nb ne lc bc ec : Nat) (w : World) (hf : form op = 4) (hl : Ints w (.slice lo nl lc) ls) (hnl : ls.length = nl) (d0 : (b != 0) = false) (d1 : (n != 0) = false) (d2 : nl = 0) (d3 : 0 < nb) :
    Calls Tryz.prog 123 #[.agg #[.int .i64 op, .int .i64 a, .int .i64 b, .int .i64 n, .slice lo nl lc, .slice bo nb bc, .slice eo ne ec]] w fun e w' => e = .returned (.bool false) ∧ Below w.heap.size w w' := by
  have hlen := hl.1
  have HL := hideM hl
  have HF := hideM hf
  have HNL := hideM hnl
  rw [hnl] at hlen
  clear hl hf hnl
  have d3a : ¬ nb = 0 := by omega
  have d3b : (0 : Int) < (nb : Int) := by omega
  subst d2
  go_enter Tryz.func123, Tryz.ntmps123
  go_wp2_with fail
  refine (refForm _ _).mono ?_
  rintro e u ⟨rfl, rfl⟩
  rw [HF.out]
  go_wp2
  go_ret
  exact ⟨rfl, (Below.refl _ w).alloc (Nat.le_refl _) _⟩

set_option maxHeartbeats 2000000 in
theorem refOne4xels (op a b n : Int) (ls : List Int) (lo bo eo : Option Addr) (nl nb ne lc bc ec : Nat) (w : World) (hf : form op = 4) (hl : Ints w (.slice lo nl lc) ls) (hnl : ls.length = nl) (d0 : (b != 0) = false) (d1 : (n != 0) = false) (d2 : nl = 0) (d3 : nb = 0) (d4 : 0 < ne) :
    Calls Tryz.prog 123 #[.agg #[.int .i64 op, .int .i64 a, .int .i64 b, .int .i64 n, .slice lo nl lc, .slice bo nb bc, .slice eo ne ec]] w fun e w' => e = .returned (.bool false) ∧ Below w.heap.size w w' := by
  have hlen := hl.1
  have HL := hideM hl
  have HF := hideM hf
  have HNL := hideM hnl
  rw [hnl] at hlen
  clear hl hf hnl
  have d4a : ¬ ne = 0 := by omega
  have d4b : (0 : Int) < (ne : Int) := by omega
  subst d2
  subst d3
  go_enter Tryz.func123, Tryz.ntmps123
  go_wp2_with fail
  refine (refForm _ _).mono ?_
  rintro e u ⟨rfl, rfl⟩
  rw [HF.out]
  go_wp2
  go_ret
  exact ⟨rfl, (Below.refl _ w).alloc (Nat.le_refl _) _⟩

set_option maxHeartbeats 2000000 in
theorem refOne4e (op a b n : Int) (ls : List Int) (lo bo eo : Option Addr) (nl nb ne lc bc ec : Nat) (w : World) (hf : form op = 4) (hl : Ints w (.slice lo nl lc) ls) (hnl : ls.length = nl) (d0 : (b != 0) = false) (d1 : (n != 0) = false) (d2 : nl = 0) (d3 : nb = 0) (d4 : ne = 0) (s1 : ¬ op = 65) :
    Calls Tryz.prog 123 #[.agg #[.int .i64 op, .int .i64 a, .int .i64 b, .int .i64 n, .slice lo nl lc, .slice bo nb bc, .slice eo ne ec]] w fun e w' => e = .returned (.bool (idx a && (idx b && ls.all idx))) ∧ Below w.heap.size w w' := by
  have hlen := hl.1
  have HL := hideM hl
  have HF := hideM hf
  have HNL := hideM hnl
  rw [hnl] at hlen
  clear hl hf hnl
  subst d2
  subst d3
  subst d4
  have s1b : (op == 65) = false := by simp [s1]
  have i1 := hideM fun (w : World) => refIndex a w
  have i2 := hideM fun (w : World) => refIndex b w
  have i3 := hideM fun (w' : World) (h : Below w.heap.size w w') => refIndices _ ls w' (HL.out.on h)
  generalize idx a = r1 at *
  generalize idx b = r2 at *
  generalize ls.all idx = r3 at *
  go_enter Tryz.func123, Tryz.ntmps123
  go_wp2_with fail
  refine (refForm _ _).mono ?_
  rintro e u ⟨rfl, rfl⟩
  rw [HF.out]
  go_wp2_with fail
  refine (i1.out _).mono ?_
  rintro e u ⟨rfl, rfl⟩
  cases r1
  · go_wp2
    go_ret
    exact ⟨rfl, (Below.refl _ w).alloc (Nat.le_refl _) _⟩
  · go_wp2_with fail
    refine (i2.out _).mono ?_
    rintro e u ⟨rfl, rfl⟩
    cases r2
    · go_wp2
      go_ret
      exact ⟨rfl, (Below.refl _ w).alloc (Nat.le_refl _) _⟩
    · go_wp2_with fail
      refine (i3.out _ ((Below.refl _ w).alloc (Nat.le_refl _) _)).mono ?_
      rintro e u ⟨rfl, rfl⟩
      go_wp2
      go_ret
      exact ⟨rfl, (Below.refl _ w).alloc (Nat.le_refl _) _⟩

set_option maxHeartbeats 2000000 in
theorem refOne5xb (op a b n : Int) (ls : List Int) (lo bo eo : Option Addr) (nl nb ne lc bc ec : Nat) (w : World) (hf : form op = 5) (hl : Ints w (.slice lo nl lc) ls) (hnl : ls.length = nl) (d0 : (b != 0) = true) :
    Calls Tryz.prog 123 #[.agg #[.int .i64 op, .int .i64 a, .int .i64 b, .int .i64 n, .slice lo nl lc, .slice bo nb bc, .slice eo ne ec]] w fun e w' => e = .returned (.bool false) ∧ Below w.heap.size w w' := by
  have hlen := hl.1
  have HL := hideM hl
  have HF := hideM hf
  have HNL := hideM hnl
  rw [hnl] at hlen
  clear hl hf hnl
  go_enter Tryz.func123, Tryz.ntmps123
  go_wp2_with fail
  refine (refForm _ _).mono ?_
  rintro e u ⟨rfl, rfl⟩
  rw [HF.out]
  go_wp2
  go_ret
  exact ⟨rfl, (Below.refl _ w).alloc (Nat.le_refl _) _⟩

set_option maxHeartbeats 2000000 in
theorem refOne5xn (op a b n : Int) (ls : List Int) (lo bo eo : Option Addr) (nl nb ne lc bc ec : Nat) (w : World) (hf : form op = 5) (hl : Ints w (.slice lo nl lc) ls) (hnl : ls.length = nl) (d0 : (b != 0) = false) (d1 : (n != 0) = true) :
    Calls Tryz.prog 123 #[.agg #[.int .i64 op, .int .i64 a, .int .i64 b, .int .i64 n, .slice lo nl lc, .slice bo nb bc, .slice eo ne ec]] w fun e w' => e = .returned (.bool false) ∧ Below w.heap.size w w' := by
  have hlen := hl.1
  have HL := hideM hl
  have HF := hideM hf
  have HNL := hideM hnl
  rw [hnl] at hlen
  clear hl hf hnl
  go_enter Tryz.func123, Tryz.ntmps123
  go_wp2_with fail
  refine (refForm _ _).mono ?_
  rintro e u ⟨rfl, rfl⟩
  rw [HF.out]
  go_wp2
  go_ret
  exact ⟨rfl, (Below.refl _ w).alloc (Nat.le_refl _) _⟩

set_option maxHeartbeats 2000000 in
theorem refOne5xbody (op a b n : Int) (ls : List Int) (lo bo eo : Option Addr) (nl nb ne lc bc ec : Nat) (w : World) (hf : form op = 5) (hl : Ints w (.slice lo nl lc) ls) (hnl : ls.length = nl) (d0 : (b != 0) = false) (d1 : (n != 0) = false) (d2 : 0 < nb) :
    Calls Tryz.prog 123 #[.agg #[.int .i64 op, .int .i64 a, .int .i64 b, .int .i64 n, .slice lo nl lc, .slice bo nb bc, .slice eo ne ec]] w fun e w' => e = .returned (.bool false) ∧ Below w.heap.size w w' := by
  have hlen := hl.1
  have HL := hideM hl
  have HF := hideM hf
  have HNL := hideM hnl
  rw [hnl] at hlen
  clear hl hf hnl
  have d2a : ¬ nb = 0 := by omega
  have d2b : (0 : Int) < (nb : Int) := by omega
  go_enter Tryz.func123, Tryz.ntmps123
  go_wp2_with fail
  refine (refForm _ _).mono ?_
  rintro e u ⟨rfl, rfl⟩
  rw [HF.out]
  go_wp2
  go_ret
  exact ⟨rfl, (Below.refl _ w).alloc (Nat.le_refl _) _⟩

set_option maxHeartbeats 2000000 in
theorem refOne5xels (op a b n : Int) (ls : List Int) (lo bo eo : Option Addr) (nl nb ne lc bc ec : Nat) (w : World) (hf : form op = 5) (hl : Ints w (.slice lo nl lc) ls) (hnl : ls.length = nl) (d0 : (b != 0) = false) (d1 : (n != 0) = false) (d2 : nb = 0) (d3 : 0 < ne) :
    Calls Tryz.prog 123 #[.agg #[.int .i64 op, .int .i64 a, .int .i64 b, .int .i64 n, .slice lo nl lc, .slice bo nb bc, .slice eo ne ec]] w fun e w' => e = .returned (.bool false) ∧ Below w.heap.size w w' := by
  have hlen := hl.1
  have HL := hideM hl
  have HF := hideM hf
  have HNL := hideM hnl
  rw [hnl] at hlen
  clear hl hf hnl
  have d3a : ¬ ne = 0 := by omega
  have d3b : (0 : Int) < (ne : Int) := by omega
  subst d2
  go_enter Tryz.func123, Tryz.ntmps123
  go_wp2_with fail
  refine (refForm _ _).mono ?_
  rintro e u ⟨rfl, rfl⟩
  rw [HF.out]
  go_wp2
  go_ret
  exact ⟨rfl, (Below.refl _ w).alloc (Nat.le_refl _) _⟩

set_option maxHeartbeats 2000000 in
theorem refOne5e (op a b n : Int) (ls : List Int) (lo bo eo : Option Addr) (nl nb ne lc bc ec : Nat) (w : World) (hf : form op = 5) (hl : Ints w (.slice lo nl lc) ls) (hnl : ls.length = nl) (d0 : (b != 0) = false) (d1 : (n != 0) = false) (d2 : nb = 0) (d3 : ne = 0) (s1 : ¬ op = 65) :
    Calls Tryz.prog 123 #[.agg #[.int .i64 op, .int .i64 a, .int .i64 b, .int .i64 n, .slice lo nl lc, .slice bo nb bc, .slice eo ne ec]] w fun e w' => e = .returned (.bool (idx a && (idx b && ls.all idx))) ∧ Below w.heap.size w w' := by
  have hlen := hl.1
  have HL := hideM hl
  have HF := hideM hf
  have HNL := hideM hnl
  rw [hnl] at hlen
  clear hl hf hnl
  subst d2
  subst d3
  have s1b : (op == 65) = false := by simp [s1]
  have i1 := hideM fun (w : World) => refIndex a w
  have i2 := hideM fun (w : World) => refIndex b w
  have i3 := hideM fun (w' : World) (h : Below w.heap.size w w') => refIndices _ ls w' (HL.out.on h)
  generalize idx a = r1 at *
  generalize idx b = r2 at *
  generalize ls.all idx = r3 at *
  go_enter Tryz.func123, Tryz.ntmps123
  go_wp2_with fail
  refine (refForm _ _).mono ?_
  rintro e u ⟨rfl, rfl⟩
  rw [HF.out]
  go_wp2_with fail
  refine (i1.out _).mono ?_
  rintro e u ⟨rfl, rfl⟩
  cases r1
  · go_wp2
    go_ret
    exact ⟨rfl, (Below.refl _ w).alloc (Nat.le_refl _) _⟩
  · go_wp2_with fail
    refine (i2.out _).mono ?_
    rintro e u ⟨rfl, rfl⟩
    cases r2
    · go_wp2
      go_ret
      exact ⟨rfl, (Below.refl _ w).alloc (Nat.le_refl _) _⟩
    · go_wp2_with fail
      refine (i3.out _ ((Below.refl _ w).alloc (Nat.le_refl _) _)).mono ?_
      rintro e u ⟨rfl, rfl⟩
      go_wp2
      go_ret
      exact ⟨rfl, (Below.refl _ w).alloc (Nat.le_refl _) _⟩

set_option maxHeartbeats 2000000 in
theorem refOne6xb (op a b n : Int) (ls : List Int) (lo bo eo : Option Addr) (nl nb ne lc bc ec : Nat) (w : World) (hf : form op = 6) (hl : Ints w (.slice lo nl lc) ls) (hnl : ls.length = nl) (d0 : (b != 0) = true) :
    Calls Tryz.prog 123 #[.agg #[.int .i64 op, .int .i64 a, .int .i64 b, .int .i64 n, .slice lo nl lc, .slice bo nb bc, .slice eo ne ec]] w fun e w' => e = .returned (.bool false) ∧ Below w.heap.size w w' := by
  have hlen := hl.1
  have HL := hideM hl
  have HF := hideM hf
  have HNL := hideM hnl
  rw [hnl] at hlen
  clear hl hf hnl
  go_enter Tryz.func123, Tryz.ntmps123
  go_wp2_with fail
  refine (refForm _ _).mono ?_
  rintro e u ⟨rfl, rfl⟩
  rw [HF.out]
  go_wp2
  go_ret
  exact ⟨rfl, (Below.refl _ w).alloc (Nat.le_refl _) _⟩

set_option maxHeartbeats 2000000 in
theorem refOne6xn (op a b n : Int) (ls : List Int) (lo bo eo : Option Addr) (nl nb ne lc bc ec : Nat) (w : World) (hf : form op = 6) (hl : Ints w (.slice lo nl lc) ls) (hnl : ls.length = nl) (d0 : (b != 0) = false) (d1 : (n != 0) = true) :
    Calls Tryz.prog 123 #[.agg #[.int .i64 op, .int .i64 a, .int .i64 b, .int .i64 n, .slice lo nl lc, .slice bo nb bc, .slice eo ne ec]] w fun e w' => e = .returned (.bool false) ∧ Below w.heap.size w w' := by
  have hlen := hl.1
  have HL := hideM hl
  have HF := hideM hf
  have HNL := hideM hnl
  rw [hnl] at hlen
  clear hl hf hnl
  go_enter Tryz.func123, Tryz.ntmps123
  go_wp2_with fail
  refine (refForm _ _).mono ?_
  rintro e u ⟨rfl, rfl⟩
  rw [HF.out]
  go_wp2
  go_ret
  exact ⟨rfl, (Below.refl _ w).alloc (Nat.le_refl _) _⟩

set_option maxHeartbeats 2000000 in
theorem refOne6xlabels (op a b n : Int) (ls : List Int) (lo bo eo : Option Addr) (nl nb ne lc bc ec : Nat) (w : World) (hf : form op = 6) (hl : Ints w (.slice lo nl lc) ls) (hnl : ls.length = nl) (d0 : (b != 0) = false) (d1 : (n != 0) = false) (d2 : 0 < nl) :
    Calls Tryz.prog 123 #[.agg #[.int .i64 op, .int .i64 a, .int .i64 b, .int .i64 n, .slice lo nl lc, .slice bo nb bc, .slice eo ne ec]] w fun e w' => e = .returned (.bool false) ∧ Below w.heap.size w w' := by
  have hlen := hl.1
  have HL := hideM hl
  have HF := hideM hf
  have HNL := hideM hnl
  rw [hnl] at hlen
  clear hl hf hnl
  have d2a : ¬ nl = 0 := by omega
  have d2b : (0 : Int) < (nl : Int) := by omega
  go_enter Tryz.func123, Tryz.ntmps123
  go_wp2_with fail
  refine (refForm _ _).mono ?_
  rintro e u ⟨rfl, rfl⟩
  rw [HF.out]
  go_wp2
  go_ret
  exact ⟨rfl, (Below.refl _ w).alloc (Nat.le_refl _) _⟩

set_option maxHeartbeats 2000000 in
theorem refOne6xbody (op a b n : Int) (ls : List Int) (lo bo eo : Option Addr) (nl nb ne lc bc ec : Nat) (w : World) (hf : form op = 6) (hl : Ints w (.slice lo nl lc) ls) (hnl : ls.length = nl) (d0 : (b != 0) = false) (d1 : (n != 0) = false) (d2 : nl = 0) (d3 : 0 < nb) :
    Calls Tryz.prog 123 #[.agg #[.int .i64 op, .int .i64 a, .int .i64 b, .int .i64 n, .slice lo nl lc, .slice bo nb bc, .slice eo ne ec]] w fun e w' => e = .returned (.bool false) ∧ Below w.heap.size w w' := by
  have hlen := hl.1
  have HL := hideM hl
  have HF := hideM hf
  have HNL := hideM hnl
  rw [hnl] at hlen
  clear hl hf hnl
  have d3a : ¬ nb = 0 := by omega
  have d3b : (0 : Int) < (nb : Int) := by omega
  subst d2
  go_enter Tryz.func123, Tryz.ntmps123
  go_wp2_with fail
  refine (refForm _ _).mono ?_
  rintro e u ⟨rfl, rfl⟩
  rw [HF.out]
  go_wp2
  go_ret
  exact ⟨rfl, (Below.refl _ w).alloc (Nat.le_refl _) _⟩

set_option maxHeartbeats 2000000 in
theorem refOne6xels (op a b n : Int) (ls : List Int) (lo bo eo : Option Addr) (nl nb ne lc bc ec : Nat) (w : World) (hf : form op = 6) (hl : Ints w (.slice lo nl lc) ls) (hnl : ls.length = nl) (d0 : (b != 0) = false) (d1 : (n != 0) = false) (d2 : nl = 0) (d3 : nb = 0) (d4 : 0 < ne) :
    Calls Tryz.prog 123 #[.agg #[.int .i64 op, .int .i64 a, .int .i64 b, .int .i64 n, .slice lo nl lc, .slice bo nb bc, .slice eo ne ec]] w fun e w' => e = .returned (.bool false) ∧ Below w.heap.size w w' := by
  have hlen := hl.1
  have HL := hideM hl
  have HF := hideM hf
  have HNL := hideM hnl
  rw [hnl] at hlen
  clear hl hf hnl
  have d4a : ¬ ne = 0 := by omega
  have d4b : (0 : Int) < (ne : Int) := by omega
  subst d2
  subst d3
  go_enter Tryz.func123, Tryz.ntmps123
  go_wp2_with fail
  refine (refForm _ _).mono ?_
  rintro e u ⟨rfl, rfl⟩
  rw [HF.out]
  go_wp2
  go_ret
  exact ⟨rfl, (Below.refl _ w).alloc (Nat.le_refl _) _⟩

set_option maxHeartbeats 2000000 in
theorem refOne6e (op a b n : Int) (ls : List Int) (lo bo eo : Option Addr) (nl nb ne lc bc ec : Nat) (w : World) (hf : form op = 6) (hl : Ints w (.slice lo nl lc) ls) (hnl : ls.length = nl) (d0 : (b != 0) = false) (d1 : (n != 0) = false) (d2 : nl = 0) (d3 : nb = 0) (d4 : ne = 0) (s1 : ¬ op = 65) :
    Calls Tryz.prog 123 #[.agg #[.int .i64 op, .int .i64 a, .int .i64 b, .int .i64 n, .slice lo nl lc, .slice bo nb bc, .slice eo ne ec]] w fun e w' => e = .returned (.bool (idx a && (idx b && ls.all idx))) ∧ Below w.heap.size w w' := by
  have hlen := hl.1
  have HL := hideM hl
  have HF := hideM hf
  have HNL := hideM hnl
  rw [hnl] at hlen
  clear hl hf hnl
  subst d2
  subst d3
  subst d4
  have s1b : (op == 65) = false := by simp [s1]
  have i1 := hideM fun (w : World) => refIndex a w
  have i2 := hideM fun (w : World) => refIndex b w
  have i3 := hideM fun (w' : World) (h : Below w.heap.size w w') => refIndices _ ls w' (HL.out.on h)
  generalize idx a = r1 at *
  generalize idx b = r2 at *
  generalize ls.all idx = r3 at *
  go_enter Tryz.func123, Tryz.ntmps123
  go_wp2_with fail
  refine (refForm _ _).mono ?_
  rintro e u ⟨rfl, rfl⟩
  rw [HF.out]
  go_wp2_with fail
  refine (i1.out _).mono ?_
  rintro e u ⟨rfl, rfl⟩
  cases r1
  · go_wp2
    go_ret
    exact ⟨rfl, (Below.refl _ w).alloc (Nat.le_refl _) _⟩
  · go_wp2_with fail
    refine (i2.out _).mono ?_
    rintro e u ⟨rfl, rfl⟩
    cases r2
    · go_wp2
      go_ret
      exact ⟨rfl, (Below.refl _ w).alloc (Nat.le_refl _) _⟩
    · go_wp2_with fail
      refine (i3.out _ ((Below.refl _ w).alloc (Nat.le_refl _) _)).mono ?_
      rintro e u ⟨rfl, rfl⟩
      go_wp2
      go_ret
      exact ⟨rfl, (Below.refl _ w).alloc (Nat.le_refl _) _⟩

set_option maxHeartbeats 2000000 in
theorem refOne7xb (op a b n : Int) (ls : List Int) (lo bo eo : Option Addr) (nl nb ne lc bc ec : Nat) (w : World) (hf : form op = 7) (hl : Ints w (.slice lo nl lc) ls) (hnl : ls.length = nl) (d0 : (b != 0) = true) :
    Calls Tryz.prog 123 #[.agg #[.int .i64 op, .int .i64 a, .int .i64 b, .int .i64 n, .slice lo nl lc, .slice bo nb bc, .slice eo ne ec]] w fun e w' => e = .returned (.bool false) ∧ Below w.heap.size w w' := by
  have hlen := hl.1
  have HL := hideM hl
  have HF := hideM hf
  have HNL := hideM hnl
  rw [hnl] at hlen
  clear hl hf hnl
  go_enter Tryz.func123, Tryz.ntmps123
  go_wp2_with fail
  refine (refForm _ _).mono ?_
  rintro e u ⟨rfl, rfl⟩
  rw [HF.out]
  go_wp2
  go_ret
  exact ⟨rfl, (Below.refl _ w).alloc (Nat.le_refl _) _⟩

set_option maxHeartbeats 2000000 in
theorem refOne7xn (op a b n : Int) (ls : List Int) (lo bo eo : Option Addr) (nl nb ne lc bc ec : Nat) (w : World) (hf : form op = 7) (hl : Ints w (.slice lo nl lc) ls) (hnl : ls.length = nl) (d0 : (b != 0) = false) (d1 : (n != 0) = true) :
    Calls Tryz.prog 123 #[.agg #[.int .i64 op, .int .i64 a, .int .i64 b, .int .i64 n, .slice lo nl lc, .slice bo nb bc, .slice eo ne ec]] w fun e w' => e = .returned (.bool false) ∧ Below w.heap.size w w' := by
  have hlen := hl.1
  have HL := hideM hl
  have HF := hideM hf
  have HNL := hideM hnl
  rw [hnl] at hlen
  clear hl hf hnl
  go_enter Tryz.func123, Tryz.ntmps123
  go_wp2_with fail
  refine (refForm _ _).mono ?_
  rintro e u ⟨rfl, rfl⟩
  rw [HF.out]
  go_wp2
  go_ret
  exact ⟨rfl, (Below.refl _ w).alloc (Nat.le_refl _) _⟩

set_option maxHeartbeats 2000000 in
theorem refOne7xlabels (op a b n : Int) (ls : List Int) (lo bo eo : Option Addr) (nl nb ne lc bc ec : Nat) (w : World) (hf : form op = 7) (hl : Ints w (.slice lo nl lc) ls) (hnl : ls.length = nl) (d0 : (b != 0) = false) (d1 : (n != 0) = false) (d2 : 0 < nl) :
    Calls Tryz.prog 123 #[.agg #[.int .i64 op, .int .i64 a, .int .i64 b, .int .i64 n, .slice lo nl lc, .slice bo nb bc, .slice eo ne ec]] w fun e w' => e = .returned (.bool false) ∧ Below w.heap.size w w' := by
  have hlen := hl.1
  have HL := hideM hl
  have HF := hideM hf
  have HNL := hideM hnl
  rw [hnl] at hlen
  clear hl hf hnl
  have d2a : ¬ nl = 0 := by omega
  have d2b : (0 : Int) < (nl : Int) := by omega
  go_enter Tryz.func123, Tryz.ntmps123
  go_wp2_with fail
  refine (refForm _ _).mono ?_
  rintro e u ⟨rfl, rfl⟩
  rw [HF.out]
  go_wp2
  go_ret
  exact ⟨rfl, (Below.refl _ w).alloc (Nat.le_refl _) _⟩

set_option maxHeartbeats 2000000 in
theorem refOne7xbody (op a b n : Int) (ls : List Int) (lo bo eo : Option Addr) (nl nb ne lc bc ec : Nat) (w : World) (hf : form op = 7) (hl : Ints w (.slice lo nl lc) ls) (hnl : ls.length = nl) (d0 : (b != 0) = false) (d1 : (n != 0) = false) (d2 : nl = 0) (d3 : 0 < nb) :
    Calls Tryz.prog 123 #[.agg #[.int .i64 op, .int .i64 a, .int .i64 b, .int .i64 n, .slice lo nl lc, .slice bo nb bc, .slice eo ne ec]] w fun e w' => e = .returned (.bool false) ∧ Below w.heap.size w w' := by
  have hlen := hl.1
  have HL := hideM hl
  have HF := hideM hf
  have HNL := hideM hnl
  rw [hnl] at hlen
  clear hl hf hnl
  have d3a : ¬ nb = 0 := by omega
  have d3b : (0 : Int) < (nb : Int) := by omega
  subst d2
  go_enter Tryz.func123, Tryz.ntmps123
  go_wp2_with fail
  refine (refForm _ _).mono ?_
  rintro e u ⟨rfl, rfl⟩
  rw [HF.out]
  go_wp2
  go_ret
  exact ⟨rfl, (Below.refl _ w).alloc (Nat.le_refl _) _⟩

set_option maxHeartbeats 2000000 in
theorem refOne7xels (op a b n : Int) (ls : List Int) (lo bo eo : Option Addr) (nl nb ne lc bc ec : Nat) (w : World) (hf : form op = 7) (hl : Ints w (.slice lo nl lc) ls) (hnl : ls.length = nl) (d0 : (b != 0) = false) (d1 : (n != 0) = false) (d2 : nl = 0) (d3 : nb = 0) (d4 : 0 < ne) :
    Calls Tryz.prog 123 #[.agg #[.int .i64 op, .int .i64 a, .int .i64 b, .int .i64 n, .slice lo nl lc, .slice bo nb bc, .slice eo ne ec]] w fun e w' => e = .returned (.bool false) ∧ Below w.heap.size w w' := by
  have hlen := hl.1
  have HL := hideM hl
  have HF := hideM hf
  have HNL := hideM hnl
  rw [hnl] at hlen
  clear hl hf hnl
  have d4a : ¬ ne = 0 := by omega
  have d4b : (0 : Int) < (ne : Int) := by omega
  subst d2
  subst d3
  go_enter Tryz.func123, Tryz.ntmps123
  go_wp2_with fail
  refine (refForm _ _).mono ?_
  rintro e u ⟨rfl, rfl⟩
  rw [HF.out]
  go_wp2
  go_ret
  exact ⟨rfl, (Below.refl _ w).alloc (Nat.le_refl _) _⟩

set_option maxHeartbeats 2000000 in
theorem refOne7e (op a b n : Int) (ls : List Int) (lo bo eo : Option Addr) (nl nb ne lc bc ec : Nat) (w : World) (hf : form op = 7) (hl : Ints w (.slice lo nl lc) ls) (hnl : ls.length = nl) (d0 : (b != 0) = false) (d1 : (n != 0) = false) (d2 : nl = 0) (d3 : nb = 0) (d4 : ne = 0) (s1 : ¬ op = 65) :
    Calls Tryz.prog 123 #[.agg #[.int .i64 op, .int .i64 a, .int .i64 b, .int .i64 n, .slice lo nl lc, .slice bo nb bc, .slice eo ne ec]] w fun e w' => e = .returned (.bool (idx a && (idx b && ls.all idx))) ∧ Below w.heap.size w w' := by
  have hlen := hl.1
  have HL := hideM hl
  have HF := hideM hf
  have HNL := hideM hnl
  rw [hnl] at hlen
  clear hl hf hnl
  subst d2
  subst d3
  subst d4
  have s1b : (op == 65) = false := by simp [s1]
  have i1 := hideM fun (w : World) => refIndex a w
  have i2 := hideM fun (w : World) => refIndex b w
  have i3 := hideM fun (w' : World) (h : Below w.heap.size w w') => refIndices _ ls w' (HL.out.on h)
  generalize idx a = r1 at *
  generalize idx b = r2 at *
  generalize ls.all idx = r3 at *
  go_enter Tryz.func123, Tryz.ntmps123
  go_wp2_with fail
  refine (refForm _ _).mono ?_
  rintro e u ⟨rfl, rfl⟩
  rw [HF.out]
  go_wp2_with fail
  refine (i1.out _).mono ?_
  rintro e u ⟨rfl, rfl⟩
  cases r1
  · go_wp2
    go_ret
    exact ⟨rfl, (Below.refl _ w).alloc (Nat.le_refl _) _⟩
  · go_wp2_with fail
    refine (i2.out _).mono ?_
    rintro e u ⟨rfl, rfl⟩
    cases r2
    · go_wp2
      go_ret
      exact ⟨rfl, (Below.refl _ w).alloc (Nat.le_refl _) _⟩
    · go_wp2_with fail
      refine (i3.out _ ((Below.refl _ w).alloc (Nat.le_refl _) _)).mono ?_
      rintro e u ⟨rfl, rfl⟩
      go_wp2
      go_ret
      exact ⟨rfl, (Below.refl _ w).alloc (Nat.le_refl _) _⟩

set_option maxHeartbeats 2000000 in
theorem refOne8xn (op a b n : Int) (ls : List Int) (lo bo eo : Option Addr) (nl nb ne lc bc ec : Nat) (w : World) (hf : form op = 8) (hl : Ints w (.slice lo nl lc) ls) (hnl : ls.length = nl) (d0 : (n != 0) = true) :
    Calls Tryz.prog 123 #[.agg #[.int .i64 op, .int .i64 a, .int .i64 b, .int .i64 n, .slice lo nl lc, .slice bo nb bc, .slice eo ne ec]] w fun e w' => e = .returned (.bool false) ∧ Below w.heap.size w w' := by
  have hlen := hl.1
  have HL := hideM hl
  have HF := hideM hf
  have HNL := hideM hnl
  rw [hnl] at hlen
  clear hl hf hnl
  go_enter Tryz.func123, Tryz.ntmps123
  go_wp2_with fail
  refine (refForm _ _).mono ?_
  rintro e u ⟨rfl, rfl⟩
  rw [HF.out]
  go_wp2
  go_ret
  exact ⟨rfl, (Below.refl _ w).alloc (Nat.le_refl _) _⟩

set_option maxHeartbeats 2000000 in
theorem refOne8xlabels (op a b n : Int) (ls : List Int) (lo bo eo : Option Addr) (nl nb ne lc bc ec : Nat) (w : World) (hf : form op = 8) (hl : Ints w (.slice lo nl lc) ls) (hnl : ls.length = nl) (d0 : (n != 0) = false) (d1 : 0 < nl) :
    Calls Tryz.prog 123 #[.agg #[.int .i64 op, .int .i64 a, .int .i64 b, .int .i64 n, .slice lo nl lc, .slice bo nb bc, .slice eo ne ec]] w fun e w' => e = .returned (.bool false) ∧ Below w.heap.size w w' := by
  have hlen := hl.1
  have HL := hideM hl
  have HF := hideM hf
  have HNL := hideM hnl
  rw [hnl] at hlen
  clear hl hf hnl
  have d1a : ¬ nl = 0 := by omega
  have d1b : (0 : Int) < (nl : Int) := by omega
  go_enter Tryz.func123, Tryz.ntmps123
  go_wp2_with fail
  refine (refForm _ _).mono ?_
  rintro e u ⟨rfl, rfl⟩
  rw [HF.out]
  go_wp2
  go_ret
  exact ⟨rfl, (Below.refl _ w).alloc (Nat.le_refl _) _⟩

set_option maxHeartbeats 2000000 in
theorem refOne8xbody (op a b n : Int) (ls : List Int) (lo bo eo : Option Addr) (nl nb ne lc bc ec : Nat) (w : World) (hf : form op = 8) (hl : Ints w (.slice lo nl lc) ls) (hnl : ls.length = nl) (d0 : (n != 0) = false) (d1 : nl = 0) (d2 : 0 < nb) :
    Calls Tryz.prog 123 #[.agg #[.int .i64 op, .int .i64 a, .int .i64 b, .int .i64 n, .slice lo nl lc, .slice bo nb bc, .slice eo ne ec]] w fun e w' => e = .returned (.bool false) ∧ Below w.heap.size w w' := by
  have hlen := hl.1
  have HL := hideM hl
  have HF := hideM hf
  have HNL := hideM hnl
  rw [hnl] at hlen
  clear hl hf hnl
  have d2a : ¬ nb = 0 := by omega
  have d2b : (0 : Int) < (nb : Int) := by omega
  subst d1
  go_enter Tryz.func123, Tryz.ntmps123
  go_wp2_with fail
  refine (refForm _ _).mono ?_
  rintro e u ⟨rfl, rfl⟩
  rw [HF.out]
  go_wp2
  go_ret
  exact ⟨rfl, (Below.refl _ w).alloc (Nat.le_refl _) _⟩

set_option maxHeartbeats 2000000 in
theorem refOne8xels (op a b n : Int) (ls : List Int) (lo bo eo : Option Addr) (nl nb ne lc bc ec : Nat) (w : World) (hf : form op = 8) (hl : Ints w (.slice lo nl lc) ls) (hnl : ls.length = nl) (d0 : (n != 0) = false) (d1 : nl = 0) (d2 : nb = 0) (d3 : 0 < ne) :
    Calls Tryz.prog 123 #[.agg #[.int .i64 op, .int .i64 a, .int .i64 b, .int .i64 n, .slice lo nl lc, .slice bo nb bc, .slice eo ne ec]] w fun e w' => e = .returned (.bool false) ∧ Below w.heap.size w w' := by
  have hlen := hl.1
  have HL := hideM hl
  have HF := hideM hf
  have HNL := hideM hnl
  rw [hnl] at hlen
  clear hl hf hnl
  have d3a : ¬ ne = 0 := by omega
  have d3b : (0 : Int) < (ne : Int) := by omega
  subst d1
  subst d2
  go_enter Tryz.func123, Tryz.ntmps123
  go_wp2_with fail
  refine (refForm _ _).mono ?_
  rintro e u ⟨rfl, rfl⟩
  rw [HF.out]
  go_wp2
  go_ret
  exact ⟨rfl, (Below.refl _ w).alloc (Nat.le_refl _) _⟩

set_option maxHeartbeats 2000000 in
theorem refOne8e (op a b n : Int) (ls : List Int) (lo bo eo : Option Addr) (nl nb ne lc bc ec : Nat) (w : World) (hf : form op = 8) (hl : Ints w (.slice lo nl lc) ls) (hnl : ls.length = nl) (d0 : (n != 0) = false) (d1 : nl = 0) (d2 : nb = 0) (d3 : ne = 0) (s1 : ¬ op = 65) :
    Calls Tryz.prog 123 #[.agg #[.int .i64 op, .int .i64 a, .int .i64 b, .int .i64 n, .slice lo nl lc, .slice bo nb bc, .slice eo ne ec]] w fun e w' => e = .returned (.bool (idx a && (idx b && ls.all idx))) ∧ Below w.heap.size w w' := by
  have hlen := hl.1
  have HL := hideM hl
  have HF := hideM hf
  have HNL := hideM hnl
  rw [hnl] at hlen
  clear hl hf hnl
  subst d1
  subst d2
  subst d3
  have s1b : (op == 65) = false := by simp [s1]
  have i1 := hideM fun (w : World) => refIndex a w
  have i2 := hideM fun (w : World) => refIndex b w
  have i3 := hideM fun (w' : World) (h : Below w.heap.size w w') => refIndices _ ls w' (HL.out.on h)
  generalize idx a = r1 at *
  generalize idx b = r2 at *
  generalize ls.all idx = r3 at *
  go_enter Tryz.func123, Tryz.ntmps123
  go_wp2_with fail
  refine (refForm _ _).mono ?_
  rintro e u ⟨rfl, rfl⟩
  rw [HF.out]
  go_wp2_with fail
  refine (i1.out _).mono ?_
  rintro e u ⟨rfl, rfl⟩
  cases r1
  · go_wp2
    go_ret
    exact ⟨rfl, (Below.refl _ w).alloc (Nat.le_refl _) _⟩
  · go_wp2_with fail
    refine (i2.out _).mono ?_
    rintro e u ⟨rfl, rfl⟩
    cases r2
    · go_wp2
      go_ret
      exact ⟨rfl, (Below.refl _ w).alloc (Nat.le_refl _) _⟩
    · go_wp2_with fail
      refine (i3.out _ ((Below.refl _ w).alloc (Nat.le_refl _) _)).mono ?_
      rintro e u ⟨rfl, rfl⟩
      go_wp2
      go_ret
      exact ⟨rfl, (Below.refl _ w).alloc (Nat.le_refl _) _⟩

set_option maxHeartbeats 2000000 in
theorem refOne9xa (op a b n : Int) (ls : List Int) (lo bo eo : Option Addr) (nl nb ne lc bc ec : Nat) (w : World) (hf : form op = 9) (hl : Ints w (.slice lo nl lc) ls) (hnl : ls.length = nl) (d0 : (a != 0) = true) :
    Calls Tryz.prog 123 #[.agg #[.int .i64 op, .int .i64 a, .int .i64 b, .int .i64 n, .slice lo nl lc, .slice bo nb bc, .slice eo ne ec]] w fun e w' => e = .returned (.bool false) ∧ Below w.heap.size w w' := by
  have hlen := hl.1
  have HL := hideM hl
  have HF := hideM hf
  have HNL := hideM hnl
  rw [hnl] at hlen
  clear hl hf hnl
  go_enter Tryz.func123, Tryz.ntmps123
  go_wp2_with fail
  refine (refForm _ _).mono ?_
  rintro e u ⟨rfl, rfl⟩
  rw [HF.out]
  go_wp2
  go_ret
  exact ⟨rfl, (Below.refl _ w).alloc (Nat.le_refl _) _⟩

set_option maxHeartbeats 2000000 in
theorem refOne9xb (op a b n : Int) (ls : List Int) (lo bo eo : Option Addr) (nl nb ne lc bc ec : Nat) (w : World) (hf : form op = 9) (hl : Ints w (.slice lo nl lc) ls) (hnl : ls.length = nl) (d0 : (a != 0) = false) (d1 : (b != 0) = true) :
    Calls Tryz.prog 123 #[.agg #[.int .i64 op, .int .i64 a, .int .i64 b, .int .i64 n, .slice lo nl lc, .slice bo nb bc, .slice eo ne ec]] w fun e w' => e = .returned (.bool false) ∧ Below w.heap.size w w' := by
  have hlen := hl.1
  have HL := hideM hl
  have HF := hideM hf
  have HNL := hideM hnl
  rw [hnl] at hlen
  clear hl hf hnl
  go_enter Tryz.func123, Tryz.ntmps123
  go_wp2_with fail
  refine (refForm _ _).mono ?_
  rintro e u ⟨rfl, rfl⟩
  rw [HF.out]
  go_wp2
  go_ret
  exact ⟨rfl, (Below.refl _ w).alloc (Nat.le_refl _) _⟩

set_option maxHeartbeats 2000000 in
theorem refOne9xlabels (op a b n : Int) (ls : List Int) (lo bo eo : Option Addr) (nl nb ne lc bc ec : Nat) (w : World) (hf : form op = 9) (hl : Ints w (.slice lo nl lc) ls) (hnl : ls.length = nl) (d0 : (a != 0) = false) (d1 : (b != 0) = false) (d2 : 0 < nl) :
    Calls Tryz.prog 123 #[.agg #[.int .i64 op, .int .i64 a, .int .i64 b, .int .i64 n, .slice lo nl lc, .slice bo nb bc, .slice eo ne ec]] w fun e w' => e = .returned (.bool false) ∧ Below w.heap.size w w' := by
  have hlen := hl.1
  have HL := hideM hl
  have HF := hideM hf
  have HNL := hideM hnl
  rw [hnl] at hlen
  clear hl hf hnl
  have d2a : ¬ nl = 0 := by omega
  have d2b : (0 : Int) < (nl : Int) := by omega
  go_enter Tryz.func123, Tryz.ntmps123
  go_wp2_with fail
  refine (refForm _ _).mono ?_
  rintro e u ⟨rfl, rfl⟩
  rw [HF.out]
  go_wp2
  go_ret
  exact ⟨rfl, (Below.refl _ w).alloc (Nat.le_refl _) _⟩

set_option maxHeartbeats 2000000 in
theorem refOne9xbody (op a b n : Int) (ls : List Int) (lo bo eo : Option Addr) (nl nb ne lc bc ec : Nat) (w : World) (hf : form op = 9) (hl : Ints w (.slice lo nl lc) ls) (hnl : ls.length = nl) (d0 : (a != 0) = false) (d1 : (b != 0) = false) (d2 : nl = 0) (d3 : 0 < nb) :
    Calls Tryz.prog 123 #[.agg #[.int .i64 op, .int .i64 a, .int .i64 b, .int .i64 n, .slice lo nl lc, .slice bo nb bc, .slice eo ne ec]] w fun e w' => e = .returned (.bool false) ∧ Below w.heap.size w w' := by
  have hlen := hl.1
  have HL := hideM hl
  have HF := hideM hf
  have HNL := hideM hnl
  rw [hnl] at hlen
  clear hl hf hnl
  have d3a : ¬ nb = 0 := by omega
  have d3b : (0 : Int) < (nb : Int) := by omega
  subst d2
  go_enter Tryz.func123, Tryz.ntmps123
  go_wp2_with fail
  refine (refForm _ _).mono ?_
  rintro e u ⟨rfl, rfl⟩
  rw [HF.out]
  go_wp2
  go_ret
  exact ⟨rfl, (Below.refl _ w).alloc (Nat.le_refl _) _⟩

set_option maxHeartbeats 2000000 in
theorem refOne9xels (op a b n : Int) (ls : List Int) (lo bo eo : Option Addr) (nl nb ne lc bc ec : Nat) (w : World) (hf : form op = 9) (hl : Ints w (.slice lo nl lc) ls) (hnl : ls.length = nl) (d0 : (a != 0) = false) (d1 : (b != 0) = false) (d2 : nl = 0) (d3 : nb = 0) (d4 : 0 < ne) :
    Calls Tryz.prog 123 #[.agg #[.int .i64 op, .int .i64 a, .int .i64 b, .int .i64 n, .slice lo nl lc, .slice bo nb bc, .slice eo ne ec]] w fun e w' => e = .returned (.bool false) ∧ Below w.heap.size w w' := by
  have hlen := hl.1
  have HL := hideM hl
  have HF := hideM hf
  have HNL := hideM hnl
  rw [hnl] at hlen
  clear hl hf hnl
  have d4a : ¬ ne = 0 := by omega
  have d4b : (0 : Int) < (ne : Int) := by omega
  subst d2
  subst d3
  go_enter Tryz.func123, Tryz.ntmps123
  go_wp2_with fail
  refine (refForm _ _).mono ?_
  rintro e u ⟨rfl, rfl⟩
  rw [HF.out]
  go_wp2
  go_ret
  exact ⟨rfl, (Below.refl _ w).alloc (Nat.le_refl _) _⟩

set_option maxHeartbeats 2000000 in
theorem refOne9e (op a b n : Int) (ls : List Int) (lo bo eo : Option Addr) (nl nb ne lc bc ec : Nat) (w : World) (hf : form op = 9) (hl : Ints w (.slice lo nl lc) ls) (hnl : ls.length = nl) (d0 : (a != 0) = false) (d1 : (b != 0) = false) (d2 : nl = 0) (d3 : nb = 0) (d4 : ne = 0) (s1 : ¬ op = 65) :
    Calls Tryz.prog 123 #[.agg #[.int .i64 op, .int .i64 a, .int .i64 b, .int .i64 n, .slice lo nl lc, .slice bo nb bc, .slice eo ne ec]] w fun e w' => e = .returned (.bool (idx a && (idx b && ls.all idx))) ∧ Below w.heap.size w w' := by
  have hlen := hl.1
  have HL := hideM hl
  have HF := hideM hf
  have HNL := hideM hnl
  rw [hnl] at hlen
  clear hl hf hnl
  subst d2
  subst d3
  subst d4
  have s1b : (op == 65) = false := by simp [s1]
  have i1 := hideM fun (w : World) => refIndex a w
  have i2 := hideM fun (w : World) => refIndex b w
  have i3 := hideM fun (w' : World) (h : Below w.heap.size w w') => refIndices _ ls w' (HL.out.on h)
  generalize idx a = r1 at *
  generalize idx b = r2 at *
  generalize ls.all idx = r3 at *
  go_enter Tryz.func123, Tryz.ntmps123
  go_wp2_with fail
  refine (refForm _ _).mono ?_
  rintro e u ⟨rfl, rfl⟩
  rw [HF.out]
  go_wp2_with fail
  refine (i1.out _).mono ?_
  rintro e u ⟨rfl, rfl⟩
  cases r1
  · go_wp2
    go_ret
    exact ⟨rfl, (Below.refl _ w).alloc (Nat.le_refl _) _⟩
  · go_wp2_with fail
    refine (i2.out _).mono ?_
    rintro e u ⟨rfl, rfl⟩
    cases r2
    · go_wp2
      go_ret
      exact ⟨rfl, (Below.refl _ w).alloc (Nat.le_refl _) _⟩
    · go_wp2_with fail
      refine (i3.out _ ((Below.refl _ w).alloc (Nat.le_refl _) _)).mono ?_
      rintro e u ⟨rfl, rfl⟩
      go_wp2
      go_ret
      exact ⟨rfl, (Below.refl _ w).alloc (Nat.le_refl _) _⟩

set_option maxHeartbeats 2000000 in
theorem refOne9f (op a b n : Int) (ls : List Int) (lo bo eo : Option Addr) (nl nb ne lc bc ec : Nat) (w : World) (hf : form op = 9) (hl : Ints w (.slice lo nl lc) ls) (hnl : ls.length = nl) (d0 : (a != 0) = false) (d1 : (b != 0) = false) (d2 : nl = 0) (d3 : nb = 0) (d4 : ne = 0) (s1 : op = 65) (s2 : n < -2147483648) :
    Calls Tryz.prog 123 #[.agg #[.int .i64 op, .int .i64 a, .int .i64 b, .int .i64 n, .slice lo nl lc, .slice bo nb bc, .slice eo ne ec]] w fun e w' => e = .returned (.bool false) ∧ Below w.heap.size w w' := by
  have hlen := hl.1
  have HL := hideM hl
  have HF := hideM hf
  have HNL := hideM hnl
  rw [hnl] at hlen
  clear hl hf hnl
  subst d2
  subst d3
  subst d4
  subst s1
  have s2b : decide (n < -2147483648) = true := by simp [s2]
  go_enter Tryz.func123, Tryz.ntmps123
  go_wp2_with fail
  refine (refForm _ _).mono ?_
  rintro e u ⟨rfl, rfl⟩
  rw [HF.out]
  go_wp2
  go_ret
  exact ⟨rfl, (Below.refl _ w).alloc (Nat.le_refl _) _⟩

set_option maxHeartbeats 2000000 in
theorem refOne9g (op a b n : Int) (ls : List Int) (lo bo eo : Option Addr) (nl nb ne lc bc ec : Nat) (w : World) (hf : form op = 9) (hl : Ints w (.slice lo nl lc) ls) (hnl : ls.length = nl) (d0 : (a != 0) = false) (d1 : (b != 0) = false) (d2 : nl = 0) (d3 : nb = 0) (d4 : ne = 0) (s1 : op = 65) (s2 : -2147483648 ≤ n) (s3 : 2147483647 < n) :
    Calls Tryz.prog 123 #[.agg #[.int .i64 op, .int .i64 a, .int .i64 b, .int .i64 n, .slice lo nl lc, .slice bo nb bc, .slice eo ne ec]] w fun e w' => e = .returned (.bool false) ∧ Below w.heap.size w w' := by
  have hlen := hl.1
  have HL := hideM hl
  have HF := hideM hf
  have HNL := hideM hnl
  rw [hnl] at hlen
  clear hl hf hnl
  subst d2
  subst d3
  subst d4
  subst s1
  have s2b : decide (n < -2147483648) = false := by simp; omega
  have s3b : decide (2147483647 < n) = true := by simp [s3]
  go_enter Tryz.func123, Tryz.ntmps123
  go_wp2_with fail
  refine (refForm _ _).mono ?_
  rintro e u ⟨rfl, rfl⟩
  rw [HF.out]
  go_wp2
  go_ret
  exact ⟨rfl, (Below.refl _ w).alloc (Nat.le_refl _) _⟩

set_option maxHeartbeats 2000000 in
theorem refOne9h (op a b n : Int) (ls : List Int) (lo bo eo : Option Addr) (nl nb ne lc bc ec : Nat) (w : World) (hf : form op = 9) (hl : Ints w (.slice lo nl lc) ls) (hnl : ls.length = nl) (d0 : (a != 0) = false) (d1 : (b != 0) = false) (d2 : nl = 0) (d3 : nb = 0) (d4 : ne = 0) (s1 : op = 65) (s2 : -2147483648 ≤ n) (s3 : n ≤ 2147483647) :
    Calls Tryz.prog 123 #[.agg #[.int .i64 op, .int .i64 a, .int .i64 b, .int .i64 n, .slice lo nl lc, .slice bo nb bc, .slice eo ne ec]] w fun e w' => e = .returned (.bool (idx a && (idx b && ls.all idx))) ∧ Below w.heap.size w w' := by
  have hlen := hl.1
  have HL := hideM hl
  have HF := hideM hf
  have HNL := hideM hnl
  rw [hnl] at hlen
  clear hl hf hnl
  subst d2
  subst d3
  subst d4
  subst s1
  have s2b : decide (n < -2147483648) = false := by simp; omega
  have s3b : decide (2147483647 < n) = false := by simp; omega
  have i1 := hideM fun (w : World) => refIndex a w
  have i2 := hideM fun (w : World) => refIndex b w
  have i3 := hideM fun (w' : World) (h : Below w.heap.size w w') => refIndices _ ls w' (HL.out.on h)
  generalize idx a = r1 at *
  generalize idx b = r2 at *
  generalize ls.all idx = r3 at *
  go_enter Tryz.func123, Tryz.ntmps123
  go_wp2_with fail
  refine (refForm _ _).mono ?_
  rintro e u ⟨rfl, rfl⟩
  rw [HF.out]
  go_wp2_with fail
  refine (i1.out _).mono ?_
  rintro e u ⟨rfl, rfl⟩
  cases r1
  · go_wp2
    go_ret
    exact ⟨rfl, (Below.refl _ w).alloc (Nat.le_refl _) _⟩
  · go_wp2_with fail
    refine (i2.out _).mono ?_
    rintro e u ⟨rfl, rfl⟩
    cases r2
    · go_wp2
      go_ret
      exact ⟨rfl, (Below.refl _ w).alloc (Nat.le_refl _) _⟩
    · go_wp2_with fail
      refine (i3.out _ ((Below.refl _ w).alloc (Nat.le_refl _) _)).mono ?_
      rintro e u ⟨rfl, rfl⟩
      go_wp2
      go_ret
      exact ⟨rfl, (Below.refl _ w).alloc (Nat.le_refl _) _⟩

set_option maxHeartbeats 2000000 in
theorem refOne10 (op a b n : Int) (ls : List Int) (lo bo eo : Option Addr) (nl nb ne lc bc ec : Nat) (w : World) (hf : form op = 10) (hl : Ints w (.slice lo nl lc) ls) (hnl : ls.length = nl) :
    Calls Tryz.prog 123 #[.agg #[.int .i64 op, .int .i64 a, .int .i64 b, .int .i64 n, .slice lo nl lc, .slice bo nb bc, .slice eo ne ec]] w fun e w' => e = .returned (.bool false) ∧ Below w.heap.size w w' := by
  have hlen := hl.1
  have HL := hideM hl
  have HF := hideM hf
  have HNL := hideM hnl
  rw [hnl] at hlen
  clear hl hf hnl
  go_enter Tryz.func123, Tryz.ntmps123
  go_wp2_with fail
  refine (refForm _ _).mono ?_
  rintro e u ⟨rfl, rfl⟩
  rw [HF.out]
  go_wp2
  go_ret
  exact ⟨rfl, (Below.refl _ w).alloc (Nat.le_refl _) _⟩

end Go.Proofs.YtloelineidlenaaGreatDoor
