/- The program's look at the shapes of a module's entries. -/
import Derived.Test.YtlpnoelolkbmmaaDoorQJ3
namespace Go.Proofs.YtlpnoelolkbmmaaDoor
open Go.RowKit Rep
set_option linter.unusedVariables false

/-- what the program's Form and Name are to answer, in worlds of which I holds -/
structure WastC (I : World → Prop) : Prop extends FormC I where
  name : ∀ (s : ByteArray) (w : World), I w → s.size ≤ 9223372036854775807 → Calls Tryd.prog 60 #[.string s] w fun e w' => e = .returned (.bool (nm s)) ∧ Below w.heap.size w w'

namespace Rep
def Strs (w : World) (v : Value) (l : List ByteArray) : Prop := Row 1 (fun b o (z : ByteArray) => w.cell? ⟨b, o, none⟩ = .some (.string z)) v l
theorem Strs.on {w w' : World} (hb : Below w.heap.size w w') {v : Value} {l : List ByteArray} (h : Strs w v l) : Strs w' v l := Row.imp h fun _ _ _ _ h => cell_on hb h
theorem strs_new (w : World) (t : TypeId) (b cap : Nat) (zs : List ByteArray) (hb : b = w.heap.size) (hl : zs.length ≤ 9223372036854775807) : Strs (w.alloc (.cells (zs.map fun z => Value.string z).toArray t)) (.slice (some ⟨b, 0, none⟩) zs.length cap) zs := by
  refine ⟨hl, .inr ⟨b, 0, cap, rfl, fun i x hi => ?_⟩⟩
  show (w.alloc (.cells (zs.map fun z => Value.string z).toArray t)).cell? ⟨b, 0 + i * 1, none⟩ = _
  rw [World.cell?_alloc_at _ t _ _ hb]
  simp [hi]
theorem Row.lims {w w' : World} (hb : Below w.heap.size w w') {v : Value} {l : List Lim} (h : Row 3 (LimAt w) v l) : Row 3 (LimAt w') v l := h.imp fun _ _ _ _ => LimAt.on hb
theorem two_sz {a b : ByteArray} (h : a.size ≤ 9223372036854775807 ∧ b.size ≤ 9223372036854775807) : ∀ s ∈ [a, b], s.size ≤ 9223372036854775807 := by
  intro s hs; simp at hs; rcases hs with rfl | rfl; exact h.1; exact h.2
theorem one_sz {a : ByteArray} (h : a.size ≤ 9223372036854775807) : ∀ s ∈ [a], s.size ≤ 9223372036854775807 := by
  intro s hs; simp at hs; subst hs; exact h
theorem below_eq {u v : World} (h : v = u) : Below u.heap.size u v := by rw [h]; exact Below.refl _ _
theorem below_al {u v : World} {o : Obj} (h : v = u.alloc o) : Below u.heap.size u v := by rw [h]; exact (Below.refl _ u).alloc (Nat.le_refl _) o
/-- all texts of a module are no longer than memory allows -/
structure Texts {d : Nat} (m : Mod d) : Prop where
  imports : ∀ x ∈ m.imports, x.mod.size ≤ 9223372036854775807 ∧ x.name.size ≤ 9223372036854775807
  exports : ∀ x ∈ m.exports, x.name.size ≤ 9223372036854775807
end Rep

set_option maxHeartbeats 1000000 in
theorem pneedNames {I : World → Prop} (C : WastC I) (v : Value) (l : List ByteArray) (w : World) (hI : I w) (hAt : Strs w v l) (hsz : ∀ s ∈ l, s.size ≤ 9223372036854775807) :
    Calls Tryd.prog 44 #[v] w fun e w' => Needs (l.all nm) 30 e ∧ Below w.heap.size w w' := by
  have hlen := hAt.1
  obtain ⟨o, cap, hv⟩ := Row.len hAt
  have HA := hideM hAt
  subst hv
  obtain ⟨R, hR⟩ : ∃ R, R = l.all nm := ⟨_, rfl⟩
  rw [← hR]
  have HR : Hid (R = (l.drop 0).all nm) := hR
  have HSZ := hideM hsz
  have HII := hideM hI
  clear hAt hR hsz hI
  generalize hn : l.length = n at *
  go_enter Tryd.func44, Tryd.ntmps44
  go_wp2_with fail
  go_loopw [6] (fun i wr => ∃ j : Nat, j ≤ n ∧ i = .int .i64 j ∧ Hid (R = (l.drop j).all nm) ∧ Hid (Below w.heap.size w wr)) (fun i _ => n - (intOf i).toNat)
  case atStart => exact ⟨0, by omega, rfl, HR, Below.refl _ _⟩
  case round =>
    obtain ⟨j, hj, rfl, HK, HBW⟩ := hrel
    by_cases hgo : j < n
    · obtain ⟨b, off, cap2, hv2, hx⟩ := Row.some (HA.out.on HBW.out) (by omega)
      injection hv2 with ho h2 h3
      subst ho
      obtain ⟨x, hxk⟩ : ∃ x, l[j]? = some x := ⟨_, List.getElem?_eq_getElem (by omega)⟩
      have hc := hx j x hxk
      rw [Nat.mul_one] at hc
      have HN := hideM (HK.out.trans (all_on hxk rfl))
      have HSX := hideM (HSZ.out x (List.mem_of_getElem? hxk))
      clear hx hxk HK h2 h3
      go_wp2_with fail
      refine (C.name x _ (C.keep HBW.out HII.out) HSX.out).mono ?_
      rintro e u ⟨rfl, hb⟩
      have HB2 := hideM (below_go HBW.out hb)
      clear hb hc HBW
      generalize nm x = r at *
      go_wp2_with fail
      refine (pNeed r _ _).mono ?_
      rintro e u2 ⟨hN, rfl⟩
      rcases hN with ⟨rfl, rfl⟩ | ⟨rfl, rfl⟩
      · have HN' : Hid (R = (l.drop (j + 1)).all nm) := hideM (by rw [HN.out, Bool.true_and])
        clear HN
        go_wp2
        go_roundw
        case rel => exact ⟨j + 1, by omega, by go_num, HN', HB2⟩
        case measure => simp [intOf]; omega
      · have HF : R = false := by rw [HN.out, Bool.false_and]
        go_wp2
        exact ⟨rfl, .inr ⟨HF, rfl⟩, HB2.out⟩
    · have HE : R = true := all_end (by omega) HK.out
      have HEE := hideM HE
      clear HE HK
      go_wp2
      go_end0
      exact ⟨.inl ⟨HEE.out, rfl⟩, HBW.out⟩

set_option maxHeartbeats 8000000 in
theorem pneedShapes {I : World → Prop} (C : WastC I) (d : Nat) (v0 v1 v2 v3 v4 v5 v6 v7 v8 v9 : Value) (m : Mod d) (w : World) (hI : I w) (hM : ModAt w d v0 v1 v2 v3 v4 v5 v6 v7 v8 v9 m) (hX : Texts m)
    (hCat : ∀ (u : World) (b : Nat), Below w.heap.size w u → u.cell? ⟨b, 0, none⟩ = some v3 → u.cell? ⟨b, 1, none⟩ = some v4 →
      Calls Tryd.prog 46 #[.slice (some ⟨b, 0, none⟩) 2 2] u fun e u' => (∃ o c, e = .returned (.slice o (m.tables ++ m.mems).length c) ∧ Row 3 (LimAt u') (.slice o (m.tables ++ m.mems).length c) (m.tables ++ m.mems)) ∧ Below u.heap.size u u') :
    Calls Tryd.prog 31 #[.agg #[v0, v1, v2, v3, v4, v5, v6, v7, v8, v9]] w fun e w' => Needs (shM m) 30 e ∧ Below w.heap.size w w' := by
  have l0 := hM.types.1
  have l1 := hM.imports.1
  have l2 := hM.funcs.1
  have l5 := hM.globals.1
  have l6 := hM.exports.1
  have l8 := hM.elems.1
  have l9 := hM.datas.1
  have HM := hideM hM
  have HXX := hideM hX
  have HII := hideM hI
  have HCat := hideM hCat
  obtain ⟨o0, c0, rfl⟩ := Row.len hM.types
  obtain ⟨o1, c1, rfl⟩ := Row.len hM.imports
  obtain ⟨o2, c2, rfl⟩ := Row.len hM.funcs
  obtain ⟨o3, c3, rfl⟩ := Row.len hM.tables
  obtain ⟨o4, c4, rfl⟩ := Row.len hM.mems
  obtain ⟨o5, c5, rfl⟩ := Row.len hM.globals
  obtain ⟨o6, c6, rfl⟩ := Row.len hM.exports
  obtain ⟨o7, c7, rfl⟩ := Row.len hM.start
  obtain ⟨o8, c8, rfl⟩ := Row.len hM.elems
  obtain ⟨o9, c9, rfl⟩ := Row.len hM.datas
  have HB0 := hideM (Box.start w 40 (.slice o0 m.types.length c0) (.slice o1 m.imports.length c1) (.slice o2 m.funcs.length c2) (.slice o3 m.tables.length c3) (.slice o4 m.mems.length c4) (.slice o5 m.globals.length c5) (.slice o6 m.exports.length c6) (.slice o7 m.start.length c7) (.slice o8 m.elems.length c8) (.slice o9 m.datas.length c9))
  obtain ⟨R, hR⟩ : ∃ R, R = shM m := ⟨_, rfl⟩
  rw [← hR]
  unfold shM at hR
  have HR := hideM hR
  clear hM hR hX hI hCat
  generalize hn0 : m.types.length = n0 at *
  generalize hn1 : m.imports.length = n1 at *
  generalize hn2 : m.funcs.length = n2 at *
  generalize hn3 : m.tables.length = n3 at *
  generalize hn4 : m.mems.length = n4 at *
  generalize hn5 : m.globals.length = n5 at *
  generalize hn6 : m.exports.length = n6 at *
  generalize hn7 : m.start.length = n7 at *
  generalize hn8 : m.elems.length = n8 at *
  generalize hn9 : m.datas.length = n9 at *
  go_enter Tryd.func31, Tryd.ntmps31
  go_upto_region 1 with fail
  obtain ⟨wb, hwb⟩ : ∃ wb, wb = w.alloc (.cells #[.slice o0 n0 c0, .slice o1 n1 c1, .slice o2 n2 c2, .slice o3 n3 c3, .slice o4 n4 c4, .slice o5 n5 c5, .slice o6 n6 c6, .slice o7 n7 c7, .slice o8 n8 c8, .slice o9 n9 c9] 40) := ⟨_, rfl⟩
  rw [← hwb]
  have HB1 : Hid (Box w (.slice o0 n0 c0) (.slice o1 n1 c1) (.slice o2 n2 c2) (.slice o3 n3 c3) (.slice o4 n4 c4) (.slice o5 n5 c5) (.slice o6 n6 c6) (.slice o7 n7 c7) (.slice o8 n8 c8) (.slice o9 n9 c9) wb) := by rw [hwb]; exact HB0
  clear hwb HB0
  obtain ⟨q0, q1, q2, q3, q4, q5, q6, q7, q8, q9, qb⟩ := HB1.out
  clear qb
  go_wp2_with fail
  go_loopw [21] (fun i wr => ∃ j : Nat, j ≤ n0 ∧ i = .int .i64 j ∧ Hid (R = ((m.types.drop j).all shT && (m.imports.all shI && (m.funcs.all shF && ((m.tables ++ m.mems).all shL && (m.globals.all shG && (m.exports.all shE && (m.start.all idx && (m.elems.all (fun e => cstOk e.offset && e.funcs.all idx) && m.datas.all fun x => cstOk x.offset))))))))) ∧ Hid (Box w (.slice o0 n0 c0) (.slice o1 n1 c1) (.slice o2 n2 c2) (.slice o3 n3 c3) (.slice o4 n4 c4) (.slice o5 n5 c5) (.slice o6 n6 c6) (.slice o7 n7 c7) (.slice o8 n8 c8) (.slice o9 n9 c9) wr)) (fun i _ => n0 - (intOf i).toNat)
  case atStart => exact ⟨0, by omega, rfl, HR, HB1⟩
  case round =>
    obtain ⟨j, hj, rfl, HK, HBa⟩ := hrel
    clear HR HB1
    clear q0 q1 q2 q3 q4 q5 q6 q7 q8 q9
    by_cases hgo : j < n0
    · have hmr := HM.out.on HBa.out.bel
      obtain ⟨b, off, cap3, hv2, hx⟩ := Row.some hmr.types (by omega)
      injection hv2 with ho h2 h3
      subst ho
      obtain ⟨x, hxk⟩ : ∃ x, m.types[j]? = some x := ⟨_, List.getElem?_eq_getElem (by omega)⟩
      have hx' := hx j x hxk
      have HN := hideM hxk
      obtain ⟨pv, k0, a0⟩ := hx'.params
      obtain ⟨rv, k1, a1⟩ := hx'.results
      obtain ⟨po, pc, rfl⟩ := Row.len a0
      obtain ⟨ro, rc, rfl⟩ := Row.len a1
      have A0 := hideM a0
      have A1 := hideM a1
      have HP : Hid (shT x = (x.params.all typ && x.results.all typ)) := rfl
      clear a0 a1
      clear hmr hx h2 h3 hxk hx'
      go_upto_region 4 with fail
      obtain ⟨wa, hwa⟩ : ∃ wa, wa = wr.alloc (Obj.cells #[.slice po x.params.length pc, .slice ro x.results.length rc] 28) := ⟨_, rfl⟩
      rw [← hwa]
      have z0 : wa.cell? ⟨wr.heap.size, 0, none⟩ = some (.slice po x.params.length pc) := by rw [hwa]; exact new_cell _ _ _ _ _ rfl
      have z1 : wa.cell? ⟨wr.heap.size, 1, none⟩ = some (.slice ro x.results.length rc) := by rw [hwa]; exact new_cell _ _ _ _ _ rfl
      have hba : Below wr.heap.size wr wa := below_al hwa
      have HBA := hideM (HBa.out.on hba)
      have HTA := hideM hba
      clear hwa hba k0 k1
      go_wp2_with fail
      refine (pneedTypes _ x.params _ (A0.out.on HTA.out)).mono ?_
      rintro e x0 ⟨hN, hu⟩
      have hbb : Below wa.heap.size wa x0 := below_eq hu
      have HB_0 := hideM (HBA.out.on hbb)
      have HT_0 := hideM (below_go HTA.out hbb)
      have y0 := cell_on hbb z0
      have y1 := cell_on hbb z1
      clear hu z0 z1
      have z0 := y0
      have z1 := y1
      clear hbb y0 y1
      rcases hN with ⟨h, rfl⟩ | ⟨h, rfl⟩
      rotate_left
      · have HF : R = false := by rw [HK.out, all_on HN.out rfl, HP.out, h]; first | done | simp
        go_wp2
        exact ⟨rfl, .inr ⟨HF, rfl⟩, HB_0.out.bel⟩
      have H_0 := hideM h
      clear h
      go_wp2_with fail
      refine (pneedTypes _ x.results _ (A1.out.on HT_0.out)).mono ?_
      rintro e x1 ⟨hN, hu⟩
      have hbb : Below x0.heap.size x0 x1 := below_eq hu
      have HB_1 := hideM (HB_0.out.on hbb)
      have HT_1 := hideM (below_go HT_0.out hbb)
      have y0 := cell_on hbb z0
      have y1 := cell_on hbb z1
      clear hu z0 z1
      have z0 := y0
      have z1 := y1
      clear hbb y0 y1
      rcases hN with ⟨h, rfl⟩ | ⟨h, rfl⟩
      rotate_left
      · have HF : R = false := by rw [HK.out, all_on HN.out rfl, HP.out, H_0.out, h]; first | done | simp
        go_wp2
        exact ⟨rfl, .inr ⟨HF, rfl⟩, HB_1.out.bel⟩
      have H_1 := hideM h
      clear h
      have HF : Hid (R = ((m.types.drop (j + 1)).all shT && (m.imports.all shI && (m.funcs.all shF && ((m.tables ++ m.mems).all shL && (m.globals.all shG && (m.exports.all shE && (m.start.all idx && (m.elems.all (fun e => cstOk e.offset && e.funcs.all idx) && m.datas.all fun x => cstOk x.offset))))))))) := hideM (by rw [HK.out, all_on HN.out rfl, HP.out, H_0.out, H_1.out]; first | done | simp)
      clear HK HN HP H_0 H_1
      go_wp2
      go_roundw
      case rel => exact ⟨j + 1, by omega, by go_num, HF, HB_1⟩
      case measure => simp [intOf]; omega
    · have HEa : Hid (R = (m.imports.all shI && (m.funcs.all shF && ((m.tables ++ m.mems).all shL && (m.globals.all shG && (m.exports.all shE && (m.start.all idx && (m.elems.all (fun e => cstOk e.offset && e.funcs.all idx) && m.datas.all fun x => cstOk x.offset)))))))) := hideM (by rw [HK.out, all_end (by omega) (rfl : _ = (m.types.drop j).all shT)]; first | done | rfl | simp)
      clear HK
      generalize wr = woa at *
      obtain ⟨q0, q1, q2, q3, q4, q5, q6, q7, q8, q9, qb⟩ := HBa.out
      clear qb
      go_wp2_with fail
      go_loopw [35] (fun i wr => ∃ j : Nat, j ≤ n1 ∧ i = .int .i64 j ∧ Hid (R = ((m.imports.drop j).all shI && (m.funcs.all shF && ((m.tables ++ m.mems).all shL && (m.globals.all shG && (m.exports.all shE && (m.start.all idx && (m.elems.all (fun e => cstOk e.offset && e.funcs.all idx) && m.datas.all fun x => cstOk x.offset)))))))) ∧ Hid (Box w (.slice o0 n0 c0) (.slice o1 n1 c1) (.slice o2 n2 c2) (.slice o3 n3 c3) (.slice o4 n4 c4) (.slice o5 n5 c5) (.slice o6 n6 c6) (.slice o7 n7 c7) (.slice o8 n8 c8) (.slice o9 n9 c9) wr)) (fun i _ => n1 - (intOf i).toNat)
      case atStart => exact ⟨0, by omega, rfl, HEa, HBa⟩
      case round =>
        obtain ⟨j, hj, rfl, HK, HBb⟩ := hrel
        clear HEa HBa
        clear q0 q1 q2 q3 q4 q5 q6 q7 q8 q9
        by_cases hgo : j < n1
        · have hmr := HM.out.on HBb.out.bel
          obtain ⟨b, off, cap3, hv2, hx⟩ := Row.some hmr.imports (by omega)
          injection hv2 with ho h2 h3
          subst ho
          obtain ⟨x, hxk⟩ : ∃ x, m.imports[j]? = some x := ⟨_, List.getElem?_eq_getElem (by omega)⟩
          have hx' := hx j x hxk
          have HN := hideM hxk
          have k0 := hx'.mod
          have k1 := hx'.name
          have k2 := hx'.type
          have HSX := hideM (HXX.out.imports x (List.mem_of_getElem? hxk))
          have HP : Hid (shI x = ([x.mod, x.name].all nm && [x.type].all idx)) := rfl
          clear hmr hx h2 h3 hxk hx'
          go_upto_region 10 with fail
          obtain ⟨wa, hwa⟩ : ∃ wa, wa = wr.alloc (Obj.cells #[.string x.mod, .string x.name, .int .i64 x.type] 69) := ⟨_, rfl⟩
          rw [← hwa]
          have z0 : wa.cell? ⟨wr.heap.size, 0, none⟩ = some (.string x.mod) := by rw [hwa]; exact new_cell _ _ _ _ _ rfl
          have z1 : wa.cell? ⟨wr.heap.size, 1, none⟩ = some (.string x.name) := by rw [hwa]; exact new_cell _ _ _ _ _ rfl
          have z2 : wa.cell? ⟨wr.heap.size, 2, none⟩ = some (.int .i64 x.type) := by rw [hwa]; exact new_cell _ _ _ _ _ rfl
          have hba : Below wr.heap.size wr wa := below_al hwa
          have HBA := hideM (HBb.out.on hba)
          have HTA := hideM hba
          clear hwa hba k0 k1 k2
          go_wp2_with fail
          refine (pneedNames C _ [x.mod, x.name] _ (C.keep (below_new HBA.out.bel _) HII.out) (strs_new _ _ _ _ _ (by simp) (by simp)) (two_sz HSX.out)).mono ?_
          rintro e x0 ⟨hN, hu⟩
          have hbb : Below wa.heap.size wa x0 := below_go ((Below.refl _ _).alloc (Nat.le_refl _) _) hu
          have HB_0 := hideM (HBA.out.on hbb)
          have HT_0 := hideM (below_go HTA.out hbb)
          have y0 := cell_on hbb z0
          have y1 := cell_on hbb z1
          have y2 := cell_on hbb z2
          clear hu z0 z1 z2
          have z0 := y0
          have z1 := y1
          have z2 := y2
          clear hbb y0 y1 y2
          rcases hN with ⟨h, rfl⟩ | ⟨h, rfl⟩
          rotate_left
          · have HF : R = false := by rw [HK.out, all_on HN.out rfl, HP.out, h]; first | done | simp
            go_wp2
            exact ⟨rfl, .inr ⟨HF, rfl⟩, HB_0.out.bel⟩
          have H_0 := hideM h
          clear h
          go_wp2_with fail
          refine (pneedIndices _ [x.type] _ (ints_new _ _ _ _ _ (by simp) (by simp))).mono ?_
          rintro e x1 ⟨hN, hu⟩
          have hbb : Below x0.heap.size x0 x1 := below_al hu
          have HB_1 := hideM (HB_0.out.on hbb)
          have HT_1 := hideM (below_go HT_0.out hbb)
          have y0 := cell_on hbb z0
          have y1 := cell_on hbb z1
          have y2 := cell_on hbb z2
          clear hu z0 z1 z2
          have z0 := y0
          have z1 := y1
          have z2 := y2
          clear hbb y0 y1 y2
          rcases hN with ⟨h, rfl⟩ | ⟨h, rfl⟩
          rotate_left
          · have HF : R = false := by rw [HK.out, all_on HN.out rfl, HP.out, H_0.out, h]; first | done | simp
            go_wp2
            exact ⟨rfl, .inr ⟨HF, rfl⟩, HB_1.out.bel⟩
          have H_1 := hideM h
          clear h
          have HF : Hid (R = ((m.imports.drop (j + 1)).all shI && (m.funcs.all shF && ((m.tables ++ m.mems).all shL && (m.globals.all shG && (m.exports.all shE && (m.start.all idx && (m.elems.all (fun e => cstOk e.offset && e.funcs.all idx) && m.datas.all fun x => cstOk x.offset)))))))) := hideM (by rw [HK.out, all_on HN.out rfl, HP.out, H_0.out, H_1.out]; first | done | simp)
          clear HK HN HP H_0 H_1
          go_wp2
          go_roundw
          case rel => exact ⟨j + 1, by omega, by go_num, HF, HB_1⟩
          case measure => simp [intOf]; omega
        · have HEb : Hid (R = (m.funcs.all shF && ((m.tables ++ m.mems).all shL && (m.globals.all shG && (m.exports.all shE && (m.start.all idx && (m.elems.all (fun e => cstOk e.offset && e.funcs.all idx) && m.datas.all fun x => cstOk x.offset))))))) := hideM (by rw [HK.out, all_end (by omega) (rfl : _ = (m.imports.drop j).all shI)]; first | done | rfl | simp)
          clear HK
          generalize wr = wob at *
          obtain ⟨q0, q1, q2, q3, q4, q5, q6, q7, q8, q9, qb⟩ := HBb.out
          clear qb
          go_wp2_with fail
          go_loopw [53] (fun i wr => ∃ j : Nat, j ≤ n2 ∧ i = .int .i64 j ∧ Hid (R = ((m.funcs.drop j).all shF && ((m.tables ++ m.mems).all shL && (m.globals.all shG && (m.exports.all shE && (m.start.all idx && (m.elems.all (fun e => cstOk e.offset && e.funcs.all idx) && m.datas.all fun x => cstOk x.offset))))))) ∧ Hid (Box w (.slice o0 n0 c0) (.slice o1 n1 c1) (.slice o2 n2 c2) (.slice o3 n3 c3) (.slice o4 n4 c4) (.slice o5 n5 c5) (.slice o6 n6 c6) (.slice o7 n7 c7) (.slice o8 n8 c8) (.slice o9 n9 c9) wr)) (fun i _ => n2 - (intOf i).toNat)
          case atStart => exact ⟨0, by omega, rfl, HEb, HBb⟩
          case round =>
            obtain ⟨j, hj, rfl, HK, HBc⟩ := hrel
            clear HEb HBb
            clear q0 q1 q2 q3 q4 q5 q6 q7 q8 q9
            by_cases hgo : j < n2
            · have hmr := HM.out.on HBc.out.bel
              obtain ⟨b, off, cap3, hv2, hx⟩ := Row.some hmr.funcs (by omega)
              injection hv2 with ho h2 h3
              subst ho
              obtain ⟨x, hxk⟩ : ∃ x, m.funcs[j]? = some x := ⟨_, List.getElem?_eq_getElem (by omega)⟩
              have hx' := hx j x hxk
              have HN := hideM hxk
              have k0 := hx'.type
              obtain ⟨pv, k1, a0⟩ := hx'.locals
              obtain ⟨rv, k2, a1⟩ := hx'.body
              obtain ⟨po, pc, rfl⟩ := Row.len a0
              obtain ⟨ro, rc, rfl⟩ := At.len d rv x.body a1
              have A0 := hideM a0
              have HP : Hid (shF x = ([x.type].all idx && x.locals.all typ)) := rfl
              generalize size d x.body = nr at *
              clear a0 a1
              clear hmr hx h2 h3 hxk hx'
              go_upto_region 16 with fail
              obtain ⟨wa, hwa⟩ : ∃ wa, wa = wr.alloc (Obj.cells #[.int .i64 x.type, .slice po x.locals.length pc, .slice ro nr rc] 31) := ⟨_, rfl⟩
              rw [← hwa]
              have z0 : wa.cell? ⟨wr.heap.size, 0, none⟩ = some (.int .i64 x.type) := by rw [hwa]; exact new_cell _ _ _ _ _ rfl
              have z1 : wa.cell? ⟨wr.heap.size, 1, none⟩ = some (.slice po x.locals.length pc) := by rw [hwa]; exact new_cell _ _ _ _ _ rfl
              have z2 : wa.cell? ⟨wr.heap.size, 2, none⟩ = some (.slice ro nr rc) := by rw [hwa]; exact new_cell _ _ _ _ _ rfl
              have hba : Below wr.heap.size wr wa := below_al hwa
              have HBA := hideM (HBc.out.on hba)
              have HTA := hideM hba
              clear hwa hba k0 k1 k2
              go_wp2_with fail
              refine (pneedIndices _ [x.type] _ (ints_new _ _ _ _ _ (by simp) (by simp))).mono ?_
              rintro e x0 ⟨hN, hu⟩
              have hbb : Below wa.heap.size wa x0 := below_al hu
              have HB_0 := hideM (HBA.out.on hbb)
              have HT_0 := hideM (below_go HTA.out hbb)
              have y0 := cell_on hbb z0
              have y1 := cell_on hbb z1
              have y2 := cell_on hbb z2
              clear hu z0 z1 z2
              have z0 := y0
              have z1 := y1
              have z2 := y2
              clear hbb y0 y1 y2
              rcases hN with ⟨h, rfl⟩ | ⟨h, rfl⟩
              rotate_left
              · have HF : R = false := by rw [HK.out, all_on HN.out rfl, HP.out, h]; first | done | simp
                go_wp2
                exact ⟨rfl, .inr ⟨HF, rfl⟩, HB_0.out.bel⟩
              have H_0 := hideM h
              clear h
              go_wp2_with fail
              refine (pneedTypes _ x.locals _ (A0.out.on HT_0.out)).mono ?_
              rintro e x1 ⟨hN, hu⟩
              have hbb : Below x0.heap.size x0 x1 := below_eq hu
              have HB_1 := hideM (HB_0.out.on hbb)
              have HT_1 := hideM (below_go HT_0.out hbb)
              have y0 := cell_on hbb z0
              have y1 := cell_on hbb z1
              have y2 := cell_on hbb z2
              clear hu z0 z1 z2
              have z0 := y0
              have z1 := y1
              have z2 := y2
              clear hbb y0 y1 y2
              rcases hN with ⟨h, rfl⟩ | ⟨h, rfl⟩
              rotate_left
              · have HF : R = false := by rw [HK.out, all_on HN.out rfl, HP.out, H_0.out, h]; first | done | simp
                go_wp2
                exact ⟨rfl, .inr ⟨HF, rfl⟩, HB_1.out.bel⟩
              have H_1 := hideM h
              clear h
              have HF : Hid (R = ((m.funcs.drop (j + 1)).all shF && ((m.tables ++ m.mems).all shL && (m.globals.all shG && (m.exports.all shE && (m.start.all idx && (m.elems.all (fun e => cstOk e.offset && e.funcs.all idx) && m.datas.all fun x => cstOk x.offset))))))) := hideM (by rw [HK.out, all_on HN.out rfl, HP.out, H_0.out, H_1.out]; first | done | simp)
              clear HK HN HP H_0 H_1
              go_wp2
              go_roundw
              case rel => exact ⟨j + 1, by omega, by go_num, HF, HB_1⟩
              case measure => simp [intOf]; omega
            · have HEc : Hid (R = ((m.tables ++ m.mems).all shL && (m.globals.all shG && (m.exports.all shE && (m.start.all idx && (m.elems.all (fun e => cstOk e.offset && e.funcs.all idx) && m.datas.all fun x => cstOk x.offset)))))) := hideM (by rw [HK.out, all_end (by omega) (rfl : _ = (m.funcs.drop j).all shF)]; first | done | rfl | simp)
              clear HK
              generalize wr = woc at *
              obtain ⟨q0, q1, q2, q3, q4, q5, q6, q7, q8, q9, qb⟩ := HBc.out
              clear qb
              go_wp2_with fail
              refine (HCat.out _ _ (below_new HBc.out.bel _) (by rw [World.cell?_alloc_at _ _ _ _ rfl]; rfl) (by rw [World.cell?_alloc_at _ _ _ _ rfl]; rfl)).mono ?_
              rintro e wc ⟨⟨oL, cL, rfl, hrow⟩, hbb⟩
              have HBd := hideM ((HBc.out.new _).on hbb)
              have lL := hrow.1
              generalize hnL : (m.tables ++ m.mems).length = nL at *
              have HRL := hideM hrow
              clear hbb hrow HBc HCat q0 q1 q2 q3 q4 q5 q6 q7 q8 q9
              obtain ⟨q0, q1, q2, q3, q4, q5, q6, q7, q8, q9, qb⟩ := HBd.out
              clear qb
              go_wp2_with fail
              go_loopw [72] (fun i wr => ∃ j : Nat, j ≤ nL ∧ i = .int .i64 j ∧ Hid (R = (((m.tables ++ m.mems).drop j).all shL && (m.globals.all shG && (m.exports.all shE && (m.start.all idx && (m.elems.all (fun e => cstOk e.offset && e.funcs.all idx) && m.datas.all fun x => cstOk x.offset)))))) ∧ Hid (Box w (.slice o0 n0 c0) (.slice o1 n1 c1) (.slice o2 n2 c2) (.slice o3 n3 c3) (.slice o4 n4 c4) (.slice o5 n5 c5) (.slice o6 n6 c6) (.slice o7 n7 c7) (.slice o8 n8 c8) (.slice o9 n9 c9) wr) ∧ Hid (Row 3 (LimAt wr) (.slice oL nL cL) (m.tables ++ m.mems))) (fun i _ => nL - (intOf i).toNat)
              case atStart => exact ⟨0, by omega, rfl, HEc, HBd, HRL⟩
              case round =>
                obtain ⟨j, hj, rfl, HK, HBe, HRW⟩ := hrel
                clear HEc HBd HRL
                clear q0 q1 q2 q3 q4 q5 q6 q7 q8 q9
                by_cases hgo : j < nL
                · obtain ⟨b, off, cap3, hv2, hx⟩ := Row.some HRW.out (by omega)
                  injection hv2 with ho h2 h3
                  subst ho
                  obtain ⟨x, hxk⟩ : ∃ x, (m.tables ++ m.mems)[j]? = some x := ⟨_, List.getElem?_eq_getElem (by omega)⟩
                  have hx' := hx j x hxk
                  have HN := hideM hxk
                  have k0 := hx'.min
                  have k1 := hx'.max
                  have k2 := hx'.has
                  have HP : Hid (shL x = ([x.min, x.max].all idx && (x.has || x.max == 0))) := rfl
                  clear hx h2 h3 hxk hx'
                  cases hh : x.has
                  · rw [hh] at k2
                    have HP := hideM (HP.out.trans (by rw [hh, Bool.false_or]))
                    clear hh
                    go_upto_region 22 with fail
                    obtain ⟨wa, hwa⟩ : ∃ wa, wa = wr.alloc (Obj.cells #[.int .i64 x.min, .int .i64 x.max, .bool false] 72) := ⟨_, rfl⟩
                    rw [← hwa]
                    have z0 : wa.cell? ⟨wr.heap.size, 0, none⟩ = some (.int .i64 x.min) := by rw [hwa]; exact new_cell _ _ _ _ _ rfl
                    have z1 : wa.cell? ⟨wr.heap.size, 1, none⟩ = some (.int .i64 x.max) := by rw [hwa]; exact new_cell _ _ _ _ _ rfl
                    have z2 : wa.cell? ⟨wr.heap.size, 2, none⟩ = some (.bool false) := by rw [hwa]; exact new_cell _ _ _ _ _ rfl
                    have hba : Below wr.heap.size wr wa := below_al hwa
                    have HBA := hideM (HBe.out.on hba)
                    have HRA := hideM (Row.lims hba HRW.out)
                    have HTA := hideM hba
                    clear hwa hba k0 k1 k2
                    go_wp2_with fail
                    refine (pneedIndices _ [x.min, x.max] _ (ints_new _ _ _ _ _ (by simp) (by simp))).mono ?_
                    rintro e x0 ⟨hN, hu⟩
                    have hbb : Below wa.heap.size wa x0 := below_al hu
                    have HB_0 := hideM (HBA.out.on hbb)
                    have HT_0 := hideM (below_go HTA.out hbb)
                    have HR_0 := hideM (Row.lims hbb HRA.out)
                    have y0 := cell_on hbb z0
                    have y1 := cell_on hbb z1
                    have y2 := cell_on hbb z2
                    clear hu z0 z1 z2
                    have z0 := y0
                    have z1 := y1
                    have z2 := y2
                    clear hbb y0 y1 y2
                    rcases hN with ⟨h, rfl⟩ | ⟨h, rfl⟩
                    rotate_left
                    · have HF : R = false := by rw [HK.out, all_on HN.out rfl, HP.out, h]; first | done | simp
                      go_wp2
                      exact ⟨rfl, .inr ⟨HF, rfl⟩, HB_0.out.bel⟩
                    have H_0 := hideM h
                    clear h
                    go_wp2_with fail
                    refine (pNeed (x.max == 0) 30 _).mono ?_
                    rintro e x1 ⟨hN, hu⟩
                    have hbb : Below x0.heap.size x0 x1 := below_eq hu
                    have HB_1 := hideM (HB_0.out.on hbb)
                    have HT_1 := hideM (below_go HT_0.out hbb)
                    have HR_1 := hideM (Row.lims hbb HR_0.out)
                    have y0 := cell_on hbb z0
                    have y1 := cell_on hbb z1
                    have y2 := cell_on hbb z2
                    clear hu z0 z1 z2
                    have z0 := y0
                    have z1 := y1
                    have z2 := y2
                    clear hbb y0 y1 y2
                    rcases hN with ⟨h, rfl⟩ | ⟨h, rfl⟩
                    rotate_left
                    · have HF : R = false := by rw [HK.out, all_on HN.out rfl, HP.out, H_0.out, h]; first | done | simp
                      go_wp2
                      exact ⟨rfl, .inr ⟨HF, rfl⟩, HB_1.out.bel⟩
                    have H_1 := hideM h
                    clear h
                    have HF : Hid (R = (((m.tables ++ m.mems).drop (j + 1)).all shL && (m.globals.all shG && (m.exports.all shE && (m.start.all idx && (m.elems.all (fun e => cstOk e.offset && e.funcs.all idx) && m.datas.all fun x => cstOk x.offset)))))) := hideM (by rw [HK.out, all_on HN.out rfl, HP.out, H_0.out, H_1.out]; first | done | simp)
                    clear HK HN HP H_0 H_1
                    go_wp2
                    go_roundw
                    case rel => exact ⟨j + 1, by omega, by go_num, HF, HB_1, HR_1⟩
                    case measure => simp [intOf]; omega
                  · rw [hh] at k2
                    have HP := hideM (HP.out.trans (by rw [hh, Bool.true_or]))
                    clear hh
                    go_upto_region 22 with fail
                    obtain ⟨wa, hwa⟩ : ∃ wa, wa = wr.alloc (Obj.cells #[.int .i64 x.min, .int .i64 x.max, .bool true] 72) := ⟨_, rfl⟩
                    rw [← hwa]
                    have z0 : wa.cell? ⟨wr.heap.size, 0, none⟩ = some (.int .i64 x.min) := by rw [hwa]; exact new_cell _ _ _ _ _ rfl
                    have z1 : wa.cell? ⟨wr.heap.size, 1, none⟩ = some (.int .i64 x.max) := by rw [hwa]; exact new_cell _ _ _ _ _ rfl
                    have z2 : wa.cell? ⟨wr.heap.size, 2, none⟩ = some (.bool true) := by rw [hwa]; exact new_cell _ _ _ _ _ rfl
                    have hba : Below wr.heap.size wr wa := below_al hwa
                    have HBA := hideM (HBe.out.on hba)
                    have HRA := hideM (Row.lims hba HRW.out)
                    have HTA := hideM hba
                    clear hwa hba k0 k1 k2
                    go_wp2_with fail
                    refine (pneedIndices _ [x.min, x.max] _ (ints_new _ _ _ _ _ (by simp) (by simp))).mono ?_
                    rintro e x0 ⟨hN, hu⟩
                    have hbb : Below wa.heap.size wa x0 := below_al hu
                    have HB_0 := hideM (HBA.out.on hbb)
                    have HT_0 := hideM (below_go HTA.out hbb)
                    have HR_0 := hideM (Row.lims hbb HRA.out)
                    have y0 := cell_on hbb z0
                    have y1 := cell_on hbb z1
                    have y2 := cell_on hbb z2
                    clear hu z0 z1 z2
                    have z0 := y0
                    have z1 := y1
                    have z2 := y2
                    clear hbb y0 y1 y2
                    rcases hN with ⟨h, rfl⟩ | ⟨h, rfl⟩
                    rotate_left
                    · have HF : R = false := by rw [HK.out, all_on HN.out rfl, HP.out, h]; first | done | simp
                      go_wp2
                      exact ⟨rfl, .inr ⟨HF, rfl⟩, HB_0.out.bel⟩
                    have H_0 := hideM h
                    clear h
                    go_wp2_with fail
                    refine (pNeed true 30 _).mono ?_
                    rintro e x1 ⟨hN, hu⟩
                    have hbb : Below x0.heap.size x0 x1 := below_eq hu
                    have HB_1 := hideM (HB_0.out.on hbb)
                    have HT_1 := hideM (below_go HT_0.out hbb)
                    have HR_1 := hideM (Row.lims hbb HR_0.out)
                    have y0 := cell_on hbb z0
                    have y1 := cell_on hbb z1
                    have y2 := cell_on hbb z2
                    clear hu z0 z1 z2
                    have z0 := y0
                    have z1 := y1
                    have z2 := y2
                    clear hbb y0 y1 y2
                    rcases hN with ⟨h, rfl⟩ | ⟨h, rfl⟩
                    rotate_left
                    · have HF : R = false := by rw [HK.out, all_on HN.out rfl, HP.out, H_0.out, h]; first | done | simp
                      go_wp2
                      exact ⟨rfl, .inr ⟨HF, rfl⟩, HB_1.out.bel⟩
                    have H_1 := hideM h
                    clear h
                    have HF : Hid (R = (((m.tables ++ m.mems).drop (j + 1)).all shL && (m.globals.all shG && (m.exports.all shE && (m.start.all idx && (m.elems.all (fun e => cstOk e.offset && e.funcs.all idx) && m.datas.all fun x => cstOk x.offset)))))) := hideM (by rw [HK.out, all_on HN.out rfl, HP.out, H_0.out, H_1.out]; first | done | simp)
                    clear HK HN HP H_0 H_1
                    go_wp2
                    go_roundw
                    case rel => exact ⟨j + 1, by omega, by go_num, HF, HB_1, HR_1⟩
                    case measure => simp [intOf]; omega
                · have HEe : Hid (R = (m.globals.all shG && (m.exports.all shE && (m.start.all idx && (m.elems.all (fun e => cstOk e.offset && e.funcs.all idx) && m.datas.all fun x => cstOk x.offset))))) := hideM (by rw [HK.out, all_end (by omega) (rfl : _ = ((m.tables ++ m.mems).drop j).all shL)]; first | done | rfl | simp)
                  clear HK HRW
                  generalize wr = woe at *
                  obtain ⟨q0, q1, q2, q3, q4, q5, q6, q7, q8, q9, qb⟩ := HBe.out
                  clear qb
                  go_wp2_with fail
                  go_loopw [94] (fun i wr => ∃ j : Nat, j ≤ n5 ∧ i = .int .i64 j ∧ Hid (R = ((m.globals.drop j).all shG && (m.exports.all shE && (m.start.all idx && (m.elems.all (fun e => cstOk e.offset && e.funcs.all idx) && m.datas.all fun x => cstOk x.offset))))) ∧ Hid (Box w (.slice o0 n0 c0) (.slice o1 n1 c1) (.slice o2 n2 c2) (.slice o3 n3 c3) (.slice o4 n4 c4) (.slice o5 n5 c5) (.slice o6 n6 c6) (.slice o7 n7 c7) (.slice o8 n8 c8) (.slice o9 n9 c9) wr)) (fun i _ => n5 - (intOf i).toNat)
                  case atStart => exact ⟨0, by omega, rfl, HEe, HBe⟩
                  case round =>
                    obtain ⟨j, hj, rfl, HK, HBf⟩ := hrel
                    clear HEe HBe
                    clear q0 q1 q2 q3 q4 q5 q6 q7 q8 q9
                    by_cases hgo : j < n5
                    · have hmr := HM.out.on HBf.out.bel
                      obtain ⟨b, off, cap3, hv2, hx⟩ := Row.some hmr.globals (by omega)
                      injection hv2 with ho h2 h3
                      subst ho
                      obtain ⟨x, hxk⟩ : ∃ x, m.globals[j]? = some x := ⟨_, List.getElem?_eq_getElem (by omega)⟩
                      have hx' := hx j x hxk
                      have HN := hideM hxk
                      have k0 := hx'.type
                      have k1 := hx'.mtb
                      obtain ⟨g0, g1, g2, g3, ⟨lv, g4, a4⟩, ⟨bv, g5, a5⟩, ⟨ev, g6, a6⟩⟩ := hx'.init
                      obtain ⟨lo, lc, rfl⟩ := Row.len a4
                      obtain ⟨bo, bc, rfl⟩ := At.len d bv x.init.body a5
                      obtain ⟨eo, ec, rfl⟩ := At.len d ev x.init.els a6
                      have A4 := hideM a4
                      have HP : Hid (shG x = ([x.type].all typ && (cst x.init.op && okF (form x.init.op) x.init.op x.init.a x.init.b x.init.n x.init.labels (size d x.init.body) (size d x.init.els)))) := rfl
                      have k2 : wr.cell? ⟨b, off + j * 9 + 2, none⟩ = _ := g0
                      have k3 : wr.cell? ⟨b, off + j * 9 + 3, none⟩ = _ := g1
                      have k4 : wr.cell? ⟨b, off + j * 9 + 4, none⟩ = _ := g2
                      have k5 : wr.cell? ⟨b, off + j * 9 + 5, none⟩ = _ := g3
                      have k6 : wr.cell? ⟨b, off + j * 9 + 6, none⟩ = _ := g4
                      have k7 : wr.cell? ⟨b, off + j * 9 + 7, none⟩ = _ := g5
                      have k8 : wr.cell? ⟨b, off + j * 9 + 8, none⟩ = _ := g6
                      clear g0 g1 g2 g3 g4 g5 g6
                      generalize size d x.init.body = nb at *
                      generalize size d x.init.els = ne at *
                      clear a4 a5 a6
                      clear hmr hx h2 h3 hxk hx'
                      go_upto_region 28 with fail
                      obtain ⟨wa, hwa⟩ : ∃ wa, wa = wr.alloc (Obj.cells #[.int .i64 x.type, .bool x.mtb, .int .i64 x.init.op, .int .i64 x.init.a, .int .i64 x.init.b, .int .i64 x.init.n, .slice lo x.init.labels.length lc, .slice bo nb bc, .slice eo ne ec] 74) := ⟨_, rfl⟩
                      rw [← hwa]
                      have z0 : wa.cell? ⟨wr.heap.size, 0, none⟩ = some (.int .i64 x.type) := by rw [hwa]; exact new_cell _ _ _ _ _ rfl
                      have z1 : wa.cell? ⟨wr.heap.size, 1, none⟩ = some (.bool x.mtb) := by rw [hwa]; exact new_cell _ _ _ _ _ rfl
                      have z2 : wa.cell? ⟨wr.heap.size, 2, none⟩ = some (.int .i64 x.init.op) := by rw [hwa]; exact new_cell _ _ _ _ _ rfl
                      have z3 : wa.cell? ⟨wr.heap.size, 3, none⟩ = some (.int .i64 x.init.a) := by rw [hwa]; exact new_cell _ _ _ _ _ rfl
                      have z4 : wa.cell? ⟨wr.heap.size, 4, none⟩ = some (.int .i64 x.init.b) := by rw [hwa]; exact new_cell _ _ _ _ _ rfl
                      have z5 : wa.cell? ⟨wr.heap.size, 5, none⟩ = some (.int .i64 x.init.n) := by rw [hwa]; exact new_cell _ _ _ _ _ rfl
                      have z6 : wa.cell? ⟨wr.heap.size, 6, none⟩ = some (.slice lo x.init.labels.length lc) := by rw [hwa]; exact new_cell _ _ _ _ _ rfl
                      have z7 : wa.cell? ⟨wr.heap.size, 7, none⟩ = some (.slice bo nb bc) := by rw [hwa]; exact new_cell _ _ _ _ _ rfl
                      have z8 : wa.cell? ⟨wr.heap.size, 8, none⟩ = some (.slice eo ne ec) := by rw [hwa]; exact new_cell _ _ _ _ _ rfl
                      have hba : Below wr.heap.size wr wa := below_al hwa
                      have HBA := hideM (HBf.out.on hba)
                      have HTA := hideM hba
                      clear hwa hba k0 k1 k2 k3 k4 k5 k6 k7 k8
                      go_wp2_with fail
                      refine (pneedTypes _ [x.type] _ (ints_new _ _ _ _ _ (by simp) (by simp))).mono ?_
                      rintro e x0 ⟨hN, hu⟩
                      have hbb : Below wa.heap.size wa x0 := below_al hu
                      have HB_0 := hideM (HBA.out.on hbb)
                      have HT_0 := hideM (below_go HTA.out hbb)
                      have y0 := cell_on hbb z0
                      have y1 := cell_on hbb z1
                      have y2 := cell_on hbb z2
                      have y3 := cell_on hbb z3
                      have y4 := cell_on hbb z4
                      have y5 := cell_on hbb z5
                      have y6 := cell_on hbb z6
                      have y7 := cell_on hbb z7
                      have y8 := cell_on hbb z8
                      clear hu z0 z1 z2 z3 z4 z5 z6 z7 z8
                      have z0 := y0
                      have z1 := y1
                      have z2 := y2
                      have z3 := y3
                      have z4 := y4
                      have z5 := y5
                      have z6 := y6
                      have z7 := y7
                      have z8 := y8
                      clear hbb y0 y1 y2 y3 y4 y5 y6 y7 y8
                      rcases hN with ⟨h, rfl⟩ | ⟨h, rfl⟩
                      rotate_left
                      · have HF : R = false := by rw [HK.out, all_on HN.out rfl, HP.out, h]; first | done | simp
                        go_wp2
                        exact ⟨rfl, .inr ⟨HF, rfl⟩, HB_0.out.bel⟩
                      have H_0 := hideM h
                      clear h
                      go_wp2_with fail
                      refine (pneedConstant C.toFormC x.init.op x.init.a x.init.b x.init.n x.init.labels lo bo eo nb ne lc bc ec _ (C.keep HB_0.out.bel HII.out) (A4.out.on HT_0.out)).mono ?_
                      rintro e x1 ⟨hN, hu⟩
                      have hbb : Below x0.heap.size x0 x1 := hu
                      have HB_1 := hideM (HB_0.out.on hbb)
                      have HT_1 := hideM (below_go HT_0.out hbb)
                      have y0 := cell_on hbb z0
                      have y1 := cell_on hbb z1
                      have y2 := cell_on hbb z2
                      have y3 := cell_on hbb z3
                      have y4 := cell_on hbb z4
                      have y5 := cell_on hbb z5
                      have y6 := cell_on hbb z6
                      have y7 := cell_on hbb z7
                      have y8 := cell_on hbb z8
                      clear hu z0 z1 z2 z3 z4 z5 z6 z7 z8
                      have z0 := y0
                      have z1 := y1
                      have z2 := y2
                      have z3 := y3
                      have z4 := y4
                      have z5 := y5
                      have z6 := y6
                      have z7 := y7
                      have z8 := y8
                      clear hbb y0 y1 y2 y3 y4 y5 y6 y7 y8
                      rcases hN with ⟨h, rfl⟩ | ⟨h, rfl⟩
                      rotate_left
                      · have HF : R = false := by rw [HK.out, all_on HN.out rfl, HP.out, H_0.out, h]; first | done | simp
                        go_wp2
                        exact ⟨rfl, .inr ⟨HF, rfl⟩, HB_1.out.bel⟩
                      have H_1 := hideM h
                      clear h
                      have HF : Hid (R = ((m.globals.drop (j + 1)).all shG && (m.exports.all shE && (m.start.all idx && (m.elems.all (fun e => cstOk e.offset && e.funcs.all idx) && m.datas.all fun x => cstOk x.offset))))) := hideM (by rw [HK.out, all_on HN.out rfl, HP.out, H_0.out, H_1.out]; first | done | simp)
                      clear HK HN HP H_0 H_1
                      go_wp2
                      go_roundw
                      case rel => exact ⟨j + 1, by omega, by go_num, HF, HB_1⟩
                      case measure => simp [intOf]; omega
                    · have HEf : Hid (R = (m.exports.all shE && (m.start.all idx && (m.elems.all (fun e => cstOk e.offset && e.funcs.all idx) && m.datas.all fun x => cstOk x.offset)))) := hideM (by rw [HK.out, all_end (by omega) (rfl : _ = (m.globals.drop j).all shG)]; first | done | rfl | simp)
                      clear HK
                      generalize wr = wof at *
                      obtain ⟨q0, q1, q2, q3, q4, q5, q6, q7, q8, q9, qb⟩ := HBf.out
                      clear qb
                      go_wp2_with fail
                      go_loopw [109] (fun i wr => ∃ j : Nat, j ≤ n6 ∧ i = .int .i64 j ∧ Hid (R = ((m.exports.drop j).all shE && (m.start.all idx && (m.elems.all (fun e => cstOk e.offset && e.funcs.all idx) && m.datas.all fun x => cstOk x.offset)))) ∧ Hid (Box w (.slice o0 n0 c0) (.slice o1 n1 c1) (.slice o2 n2 c2) (.slice o3 n3 c3) (.slice o4 n4 c4) (.slice o5 n5 c5) (.slice o6 n6 c6) (.slice o7 n7 c7) (.slice o8 n8 c8) (.slice o9 n9 c9) wr)) (fun i _ => n6 - (intOf i).toNat)
                      case atStart => exact ⟨0, by omega, rfl, HEf, HBf⟩
                      case round =>
                        obtain ⟨j, hj, rfl, HK, HBg⟩ := hrel
                        clear HEf HBf
                        clear q0 q1 q2 q3 q4 q5 q6 q7 q8 q9
                        by_cases hgo : j < n6
                        · have hmr := HM.out.on HBg.out.bel
                          obtain ⟨b, off, cap3, hv2, hx⟩ := Row.some hmr.exports (by omega)
                          injection hv2 with ho h2 h3
                          subst ho
                          obtain ⟨x, hxk⟩ : ∃ x, m.exports[j]? = some x := ⟨_, List.getElem?_eq_getElem (by omega)⟩
                          have hx' := hx j x hxk
                          have HN := hideM hxk
                          have k0 := hx'.name
                          have k1 := hx'.kind
                          have k2 := hx'.index
                          have HSX := hideM (HXX.out.exports x (List.mem_of_getElem? hxk))
                          have HP : Hid (shE x = ([x.name].all nm && ((decide (0 ≤ x.kind) && decide (x.kind ≤ 3)) && [x.index].all idx))) := rfl
                          clear hmr hx h2 h3 hxk hx'
                          cases hh : decide (0 ≤ x.kind)
                          · have HP := hideM (HP.out.trans (by rw [hh, Bool.false_and]))
                            go_upto_region 34 with fail
                            obtain ⟨wa, hwa⟩ : ∃ wa, wa = wr.alloc (Obj.cells #[.string x.name, .int .i64 x.kind, .int .i64 x.index] 77) := ⟨_, rfl⟩
                            rw [← hwa]
                            have z0 : wa.cell? ⟨wr.heap.size, 0, none⟩ = some (.string x.name) := by rw [hwa]; exact new_cell _ _ _ _ _ rfl
                            have z1 : wa.cell? ⟨wr.heap.size, 1, none⟩ = some (.int .i64 x.kind) := by rw [hwa]; exact new_cell _ _ _ _ _ rfl
                            have z2 : wa.cell? ⟨wr.heap.size, 2, none⟩ = some (.int .i64 x.index) := by rw [hwa]; exact new_cell _ _ _ _ _ rfl
                            have hba : Below wr.heap.size wr wa := below_al hwa
                            have HBA := hideM (HBg.out.on hba)
                            have HTA := hideM hba
                            clear hwa hba k0 k1 k2
                            go_wp2_with fail
                            refine (pneedNames C _ [x.name] _ (C.keep (below_new HBA.out.bel _) HII.out) (strs_new _ _ _ _ _ (by simp) (by simp)) (one_sz HSX.out)).mono ?_
                            rintro e x0 ⟨hN, hu⟩
                            have hbb : Below wa.heap.size wa x0 := below_go ((Below.refl _ _).alloc (Nat.le_refl _) _) hu
                            have HB_0 := hideM (HBA.out.on hbb)
                            have HT_0 := hideM (below_go HTA.out hbb)
                            have y0 := cell_on hbb z0
                            have y1 := cell_on hbb z1
                            have y2 := cell_on hbb z2
                            clear hu z0 z1 z2
                            have z0 := y0
                            have z1 := y1
                            have z2 := y2
                            clear hbb y0 y1 y2
                            rcases hN with ⟨h, rfl⟩ | ⟨h, rfl⟩
                            rotate_left
                            · have HF : R = false := by rw [HK.out, all_on HN.out rfl, HP.out, h]; first | done | simp
                              go_wp2
                              exact ⟨rfl, .inr ⟨HF, rfl⟩, HB_0.out.bel⟩
                            have H_0 := hideM h
                            clear h
                            go_wp2_with fail
                            refine (pNeed false 30 _).mono ?_
                            rintro e x1 ⟨hN, hu⟩
                            have hbb : Below x0.heap.size x0 x1 := below_eq hu
                            have HB_1 := hideM (HB_0.out.on hbb)
                            have HT_1 := hideM (below_go HT_0.out hbb)
                            have y0 := cell_on hbb z0
                            have y1 := cell_on hbb z1
                            have y2 := cell_on hbb z2
                            clear hu z0 z1 z2
                            have z0 := y0
                            have z1 := y1
                            have z2 := y2
                            clear hbb y0 y1 y2
                            rcases hN with ⟨h, rfl⟩ | ⟨h, rfl⟩
                            rotate_left
                            · have HF : R = false := by rw [HK.out, all_on HN.out rfl, HP.out, H_0.out, h]; first | done | simp
                              go_wp2
                              exact ⟨rfl, .inr ⟨HF, rfl⟩, HB_1.out.bel⟩
                            cases h
                          · have HP := hideM (HP.out.trans (by rw [hh, Bool.true_and]))
                            go_upto_region 34 with fail
                            obtain ⟨wa, hwa⟩ : ∃ wa, wa = wr.alloc (Obj.cells #[.string x.name, .int .i64 x.kind, .int .i64 x.index] 77) := ⟨_, rfl⟩
                            rw [← hwa]
                            have z0 : wa.cell? ⟨wr.heap.size, 0, none⟩ = some (.string x.name) := by rw [hwa]; exact new_cell _ _ _ _ _ rfl
                            have z1 : wa.cell? ⟨wr.heap.size, 1, none⟩ = some (.int .i64 x.kind) := by rw [hwa]; exact new_cell _ _ _ _ _ rfl
                            have z2 : wa.cell? ⟨wr.heap.size, 2, none⟩ = some (.int .i64 x.index) := by rw [hwa]; exact new_cell _ _ _ _ _ rfl
                            have hba : Below wr.heap.size wr wa := below_al hwa
                            have HBA := hideM (HBg.out.on hba)
                            have HTA := hideM hba
                            clear hwa hba k0 k1 k2
                            go_wp2_with fail
                            refine (pneedNames C _ [x.name] _ (C.keep (below_new HBA.out.bel _) HII.out) (strs_new _ _ _ _ _ (by simp) (by simp)) (one_sz HSX.out)).mono ?_
                            rintro e x0 ⟨hN, hu⟩
                            have hbb : Below wa.heap.size wa x0 := below_go ((Below.refl _ _).alloc (Nat.le_refl _) _) hu
                            have HB_0 := hideM (HBA.out.on hbb)
                            have HT_0 := hideM (below_go HTA.out hbb)
                            have y0 := cell_on hbb z0
                            have y1 := cell_on hbb z1
                            have y2 := cell_on hbb z2
                            clear hu z0 z1 z2
                            have z0 := y0
                            have z1 := y1
                            have z2 := y2
                            clear hbb y0 y1 y2
                            rcases hN with ⟨h, rfl⟩ | ⟨h, rfl⟩
                            rotate_left
                            · have HF : R = false := by rw [HK.out, all_on HN.out rfl, HP.out, h]; first | done | simp
                              go_wp2
                              exact ⟨rfl, .inr ⟨HF, rfl⟩, HB_0.out.bel⟩
                            have H_0 := hideM h
                            clear h
                            go_wp2_with fail
                            refine (pNeed (decide (x.kind ≤ 3)) 30 _).mono ?_
                            rintro e x1 ⟨hN, hu⟩
                            have hbb : Below x0.heap.size x0 x1 := below_eq hu
                            have HB_1 := hideM (HB_0.out.on hbb)
                            have HT_1 := hideM (below_go HT_0.out hbb)
                            have y0 := cell_on hbb z0
                            have y1 := cell_on hbb z1
                            have y2 := cell_on hbb z2
                            clear hu z0 z1 z2
                            have z0 := y0
                            have z1 := y1
                            have z2 := y2
                            clear hbb y0 y1 y2
                            rcases hN with ⟨h, rfl⟩ | ⟨h, rfl⟩
                            rotate_left
                            · have HF : R = false := by rw [HK.out, all_on HN.out rfl, HP.out, H_0.out, h]; first | done | simp
                              go_wp2
                              exact ⟨rfl, .inr ⟨HF, rfl⟩, HB_1.out.bel⟩
                            have H_1 := hideM h
                            clear h
                            go_wp2_with fail
                            refine (pneedIndices _ [x.index] _ (ints_new _ _ _ _ _ (by simp) (by simp))).mono ?_
                            rintro e x2 ⟨hN, hu⟩
                            have hbb : Below x1.heap.size x1 x2 := below_al hu
                            have HB_2 := hideM (HB_1.out.on hbb)
                            have HT_2 := hideM (below_go HT_1.out hbb)
                            have y0 := cell_on hbb z0
                            have y1 := cell_on hbb z1
                            have y2 := cell_on hbb z2
                            clear hu z0 z1 z2
                            have z0 := y0
                            have z1 := y1
                            have z2 := y2
                            clear hbb y0 y1 y2
                            rcases hN with ⟨h, rfl⟩ | ⟨h, rfl⟩
                            rotate_left
                            · have HF : R = false := by rw [HK.out, all_on HN.out rfl, HP.out, H_0.out, H_1.out, h]; first | done | simp
                              go_wp2
                              exact ⟨rfl, .inr ⟨HF, rfl⟩, HB_2.out.bel⟩
                            have H_2 := hideM h
                            clear h
                            have HF : Hid (R = ((m.exports.drop (j + 1)).all shE && (m.start.all idx && (m.elems.all (fun e => cstOk e.offset && e.funcs.all idx) && m.datas.all fun x => cstOk x.offset)))) := hideM (by rw [HK.out, all_on HN.out rfl, HP.out, H_0.out, H_1.out, H_2.out]; first | done | simp)
                            clear HK HN HP H_0 H_1 H_2
                            go_wp2
                            go_roundw
                            case rel => exact ⟨j + 1, by omega, by go_num, HF, HB_2⟩
                            case measure => simp [intOf]; omega
                        · have HEg : Hid (R = (m.start.all idx && (m.elems.all (fun e => cstOk e.offset && e.funcs.all idx) && m.datas.all fun x => cstOk x.offset))) := hideM (by rw [HK.out, all_end (by omega) (rfl : _ = (m.exports.drop j).all shE)]; first | done | rfl | simp)
                          clear HK
                          generalize wr = wog at *
                          obtain ⟨q0, q1, q2, q3, q4, q5, q6, q7, q8, q9, qb⟩ := HBg.out
                          clear qb
                          go_wp2_with fail
                          refine (pneedIndices _ m.start _ (HM.out.on HBg.out.bel).start).mono ?_
                          rintro e u ⟨hN, rfl⟩
                          rcases hN with ⟨h, rfl⟩ | ⟨h, rfl⟩
                          rotate_left
                          · have HF : R = false := by rw [HEg.out, h, Bool.false_and]
                            go_wp2
                            exact ⟨rfl, .inr ⟨HF, rfl⟩, HBg.out.bel⟩
                          have HEh := hideM (HEg.out.trans (by rw [h, Bool.true_and]))
                          clear h HEg
                          go_wp2_with fail
                          go_loopw [137] (fun i wr => ∃ j : Nat, j ≤ n8 ∧ i = .int .i64 j ∧ Hid (R = ((m.elems.drop j).all (fun e => cstOk e.offset && e.funcs.all idx) && m.datas.all fun x => cstOk x.offset)) ∧ Hid (Box w (.slice o0 n0 c0) (.slice o1 n1 c1) (.slice o2 n2 c2) (.slice o3 n3 c3) (.slice o4 n4 c4) (.slice o5 n5 c5) (.slice o6 n6 c6) (.slice o7 n7 c7) (.slice o8 n8 c8) (.slice o9 n9 c9) wr)) (fun i _ => n8 - (intOf i).toNat)
                          case atStart => exact ⟨0, by omega, rfl, HEh, HBg⟩
                          case round =>
                            obtain ⟨j, hj, rfl, HK, HBi⟩ := hrel
                            clear HEh HBg
                            clear q0 q1 q2 q3 q4 q5 q6 q7 q8 q9
                            by_cases hgo : j < n8
                            · have hmr := HM.out.on HBi.out.bel
                              obtain ⟨b, off, cap3, hv2, hx⟩ := Row.some hmr.elems (by omega)
                              injection hv2 with ho h2 h3
                              subst ho
                              obtain ⟨x, hxk⟩ : ∃ x, m.elems[j]? = some x := ⟨_, List.getElem?_eq_getElem (by omega)⟩
                              have hx' := hx j x hxk
                              have HN := hideM hxk
                              obtain ⟨g0, g1, g2, g3, ⟨lv, g4, a4⟩, ⟨bv, g5, a5⟩, ⟨ev, g6, a6⟩⟩ := hx'.offset
                              obtain ⟨lo, lc, rfl⟩ := Row.len a4
                              obtain ⟨bo, bc, rfl⟩ := At.len d bv x.offset.body a5
                              obtain ⟨eo, ec, rfl⟩ := At.len d ev x.offset.els a6
                              have A4 := hideM a4
                              obtain ⟨pv, k7, a0⟩ := hx'.funcs
                              obtain ⟨po, pc, rfl⟩ := Row.len a0
                              have A0 := hideM a0
                              have HP : Hid ((fun e : Elm d => cstOk e.offset && e.funcs.all idx) x = ((cst x.offset.op && okF (form x.offset.op) x.offset.op x.offset.a x.offset.b x.offset.n x.offset.labels (size d x.offset.body) (size d x.offset.els)) && x.funcs.all idx)) := rfl
                              have k0 := g0
                              have k1 := g1
                              have k2 := g2
                              have k3 := g3
                              have k4 := g4
                              have k5 := g5
                              have k6 := g6
                              clear g0 g1 g2 g3 g4 g5 g6 a0
                              generalize size d x.offset.body = nb at *
                              generalize size d x.offset.els = ne at *
                              clear a4 a5 a6
                              clear hmr hx h2 h3 hxk hx'
                              go_upto_region 42 with fail
                              obtain ⟨wa, hwa⟩ : ∃ wa, wa = wr.alloc (Obj.cells #[.int .i64 x.offset.op, .int .i64 x.offset.a, .int .i64 x.offset.b, .int .i64 x.offset.n, .slice lo x.offset.labels.length lc, .slice bo nb bc, .slice eo ne ec, .slice po x.funcs.length pc] 82) := ⟨_, rfl⟩
                              rw [← hwa]
                              have z0 : wa.cell? ⟨wr.heap.size, 0, none⟩ = some (.int .i64 x.offset.op) := by rw [hwa]; exact new_cell _ _ _ _ _ rfl
                              have z1 : wa.cell? ⟨wr.heap.size, 1, none⟩ = some (.int .i64 x.offset.a) := by rw [hwa]; exact new_cell _ _ _ _ _ rfl
                              have z2 : wa.cell? ⟨wr.heap.size, 2, none⟩ = some (.int .i64 x.offset.b) := by rw [hwa]; exact new_cell _ _ _ _ _ rfl
                              have z3 : wa.cell? ⟨wr.heap.size, 3, none⟩ = some (.int .i64 x.offset.n) := by rw [hwa]; exact new_cell _ _ _ _ _ rfl
                              have z4 : wa.cell? ⟨wr.heap.size, 4, none⟩ = some (.slice lo x.offset.labels.length lc) := by rw [hwa]; exact new_cell _ _ _ _ _ rfl
                              have z5 : wa.cell? ⟨wr.heap.size, 5, none⟩ = some (.slice bo nb bc) := by rw [hwa]; exact new_cell _ _ _ _ _ rfl
                              have z6 : wa.cell? ⟨wr.heap.size, 6, none⟩ = some (.slice eo ne ec) := by rw [hwa]; exact new_cell _ _ _ _ _ rfl
                              have z7 : wa.cell? ⟨wr.heap.size, 7, none⟩ = some (.slice po x.funcs.length pc) := by rw [hwa]; exact new_cell _ _ _ _ _ rfl
                              have hba : Below wr.heap.size wr wa := below_al hwa
                              have HBA := hideM (HBi.out.on hba)
                              have HTA := hideM hba
                              clear hwa hba k0 k1 k2 k3 k4 k5 k6 k7
                              go_wp2_with fail
                              refine (pneedConstant C.toFormC x.offset.op x.offset.a x.offset.b x.offset.n x.offset.labels lo bo eo nb ne lc bc ec _ (C.keep HBA.out.bel HII.out) (A4.out.on HTA.out)).mono ?_
                              rintro e x0 ⟨hN, hu⟩
                              have hbb : Below wa.heap.size wa x0 := hu
                              have HB_0 := hideM (HBA.out.on hbb)
                              have HT_0 := hideM (below_go HTA.out hbb)
                              have y0 := cell_on hbb z0
                              have y1 := cell_on hbb z1
                              have y2 := cell_on hbb z2
                              have y3 := cell_on hbb z3
                              have y4 := cell_on hbb z4
                              have y5 := cell_on hbb z5
                              have y6 := cell_on hbb z6
                              have y7 := cell_on hbb z7
                              clear hu z0 z1 z2 z3 z4 z5 z6 z7
                              have z0 := y0
                              have z1 := y1
                              have z2 := y2
                              have z3 := y3
                              have z4 := y4
                              have z5 := y5
                              have z6 := y6
                              have z7 := y7
                              clear hbb y0 y1 y2 y3 y4 y5 y6 y7
                              rcases hN with ⟨h, rfl⟩ | ⟨h, rfl⟩
                              rotate_left
                              · have HF : R = false := by rw [HK.out, all_on HN.out rfl, HP.out, h]; first | done | simp
                                go_wp2
                                exact ⟨rfl, .inr ⟨HF, rfl⟩, HB_0.out.bel⟩
                              have H_0 := hideM h
                              clear h
                              go_wp2_with fail
                              refine (pneedIndices _ x.funcs _ (A0.out.on HT_0.out)).mono ?_
                              rintro e x1 ⟨hN, hu⟩
                              have hbb : Below x0.heap.size x0 x1 := below_eq hu
                              have HB_1 := hideM (HB_0.out.on hbb)
                              have HT_1 := hideM (below_go HT_0.out hbb)
                              have y0 := cell_on hbb z0
                              have y1 := cell_on hbb z1
                              have y2 := cell_on hbb z2
                              have y3 := cell_on hbb z3
                              have y4 := cell_on hbb z4
                              have y5 := cell_on hbb z5
                              have y6 := cell_on hbb z6
                              have y7 := cell_on hbb z7
                              clear hu z0 z1 z2 z3 z4 z5 z6 z7
                              have z0 := y0
                              have z1 := y1
                              have z2 := y2
                              have z3 := y3
                              have z4 := y4
                              have z5 := y5
                              have z6 := y6
                              have z7 := y7
                              clear hbb y0 y1 y2 y3 y4 y5 y6 y7
                              rcases hN with ⟨h, rfl⟩ | ⟨h, rfl⟩
                              rotate_left
                              · have HF : R = false := by rw [HK.out, all_on HN.out rfl, HP.out, H_0.out, h]; first | done | simp
                                go_wp2
                                exact ⟨rfl, .inr ⟨HF, rfl⟩, HB_1.out.bel⟩
                              have H_1 := hideM h
                              clear h
                              have HF : Hid (R = ((m.elems.drop (j + 1)).all (fun e => cstOk e.offset && e.funcs.all idx) && m.datas.all fun x => cstOk x.offset)) := hideM (by rw [HK.out, all_on HN.out rfl, HP.out, H_0.out, H_1.out]; first | done | simp)
                              clear HK HN HP H_0 H_1
                              go_wp2
                              go_roundw
                              case rel => exact ⟨j + 1, by omega, by go_num, HF, HB_1⟩
                              case measure => simp [intOf]; omega
                            · have HEi : Hid (R = m.datas.all fun x => cstOk x.offset) := hideM (by rw [HK.out, all_end (by omega) (rfl : _ = (m.elems.drop j).all (fun e => cstOk e.offset && e.funcs.all idx))]; first | done | rfl | simp)
                              clear HK
                              generalize wr = woi at *
                              obtain ⟨q0, q1, q2, q3, q4, q5, q6, q7, q8, q9, qb⟩ := HBi.out
                              clear qb
                              go_wp2_with fail
                              go_loopw [151] (fun i wr => ∃ j : Nat, j ≤ n9 ∧ i = .int .i64 j ∧ Hid (R = ((m.datas.drop j).all (fun x => cstOk x.offset))) ∧ Hid (Box w (.slice o0 n0 c0) (.slice o1 n1 c1) (.slice o2 n2 c2) (.slice o3 n3 c3) (.slice o4 n4 c4) (.slice o5 n5 c5) (.slice o6 n6 c6) (.slice o7 n7 c7) (.slice o8 n8 c8) (.slice o9 n9 c9) wr)) (fun i _ => n9 - (intOf i).toNat)
                              case atStart => exact ⟨0, by omega, rfl, HEi, HBi⟩
                              case round =>
                                obtain ⟨j, hj, rfl, HK, HBk⟩ := hrel
                                clear HEi HBi
                                clear q0 q1 q2 q3 q4 q5 q6 q7 q8 q9
                                by_cases hgo : j < n9
                                · have hmr := HM.out.on HBk.out.bel
                                  obtain ⟨b, off, cap3, hv2, hx⟩ := Row.some hmr.datas (by omega)
                                  injection hv2 with ho h2 h3
                                  subst ho
                                  obtain ⟨x, hxk⟩ : ∃ x, m.datas[j]? = some x := ⟨_, List.getElem?_eq_getElem (by omega)⟩
                                  have hx' := hx j x hxk
                                  have HN := hideM hxk
                                  obtain ⟨g0, g1, g2, g3, ⟨lv, g4, a4⟩, ⟨bv, g5, a5⟩, ⟨ev, g6, a6⟩⟩ := hx'.offset
                                  obtain ⟨lo, lc, rfl⟩ := Row.len a4
                                  obtain ⟨bo, bc, rfl⟩ := At.len d bv x.offset.body a5
                                  obtain ⟨eo, ec, rfl⟩ := At.len d ev x.offset.els a6
                                  have A4 := hideM a4
                                  have k7 := hx'.bytes
                                  have HP : Hid ((fun x : Dat d => cstOk x.offset) x = (cst x.offset.op && okF (form x.offset.op) x.offset.op x.offset.a x.offset.b x.offset.n x.offset.labels (size d x.offset.body) (size d x.offset.els))) := rfl
                                  have k0 := g0
                                  have k1 := g1
                                  have k2 := g2
                                  have k3 := g3
                                  have k4 := g4
                                  have k5 := g5
                                  have k6 := g6
                                  clear g0 g1 g2 g3 g4 g5 g6
                                  generalize size d x.offset.body = nb at *
                                  generalize size d x.offset.els = ne at *
                                  clear a4 a5 a6
                                  clear hmr hx h2 h3 hxk hx'
                                  go_upto_region 48 with fail
                                  obtain ⟨wa, hwa⟩ : ∃ wa, wa = wr.alloc (Obj.cells #[.int .i64 x.offset.op, .int .i64 x.offset.a, .int .i64 x.offset.b, .int .i64 x.offset.n, .slice lo x.offset.labels.length lc, .slice bo nb bc, .slice eo ne ec, .string x.bytes] 84) := ⟨_, rfl⟩
                                  rw [← hwa]
                                  have z0 : wa.cell? ⟨wr.heap.size, 0, none⟩ = some (.int .i64 x.offset.op) := by rw [hwa]; exact new_cell _ _ _ _ _ rfl
                                  have z1 : wa.cell? ⟨wr.heap.size, 1, none⟩ = some (.int .i64 x.offset.a) := by rw [hwa]; exact new_cell _ _ _ _ _ rfl
                                  have z2 : wa.cell? ⟨wr.heap.size, 2, none⟩ = some (.int .i64 x.offset.b) := by rw [hwa]; exact new_cell _ _ _ _ _ rfl
                                  have z3 : wa.cell? ⟨wr.heap.size, 3, none⟩ = some (.int .i64 x.offset.n) := by rw [hwa]; exact new_cell _ _ _ _ _ rfl
                                  have z4 : wa.cell? ⟨wr.heap.size, 4, none⟩ = some (.slice lo x.offset.labels.length lc) := by rw [hwa]; exact new_cell _ _ _ _ _ rfl
                                  have z5 : wa.cell? ⟨wr.heap.size, 5, none⟩ = some (.slice bo nb bc) := by rw [hwa]; exact new_cell _ _ _ _ _ rfl
                                  have z6 : wa.cell? ⟨wr.heap.size, 6, none⟩ = some (.slice eo ne ec) := by rw [hwa]; exact new_cell _ _ _ _ _ rfl
                                  have z7 : wa.cell? ⟨wr.heap.size, 7, none⟩ = some (.string x.bytes) := by rw [hwa]; exact new_cell _ _ _ _ _ rfl
                                  have hba : Below wr.heap.size wr wa := below_al hwa
                                  have HBA := hideM (HBk.out.on hba)
                                  have HTA := hideM hba
                                  clear hwa hba k0 k1 k2 k3 k4 k5 k6 k7
                                  go_wp2_with fail
                                  refine (pneedConstant C.toFormC x.offset.op x.offset.a x.offset.b x.offset.n x.offset.labels lo bo eo nb ne lc bc ec _ (C.keep HBA.out.bel HII.out) (A4.out.on HTA.out)).mono ?_
                                  rintro e x0 ⟨hN, hu⟩
                                  have hbb : Below wa.heap.size wa x0 := hu
                                  have HB_0 := hideM (HBA.out.on hbb)
                                  have HT_0 := hideM (below_go HTA.out hbb)
                                  have y0 := cell_on hbb z0
                                  have y1 := cell_on hbb z1
                                  have y2 := cell_on hbb z2
                                  have y3 := cell_on hbb z3
                                  have y4 := cell_on hbb z4
                                  have y5 := cell_on hbb z5
                                  have y6 := cell_on hbb z6
                                  have y7 := cell_on hbb z7
                                  clear hu z0 z1 z2 z3 z4 z5 z6 z7
                                  have z0 := y0
                                  have z1 := y1
                                  have z2 := y2
                                  have z3 := y3
                                  have z4 := y4
                                  have z5 := y5
                                  have z6 := y6
                                  have z7 := y7
                                  clear hbb y0 y1 y2 y3 y4 y5 y6 y7
                                  rcases hN with ⟨h, rfl⟩ | ⟨h, rfl⟩
                                  rotate_left
                                  · have HF : R = false := by rw [HK.out, all_on HN.out rfl, HP.out, h]; first | done | simp
                                    go_wp2
                                    exact ⟨rfl, .inr ⟨HF, rfl⟩, HB_0.out.bel⟩
                                  have H_0 := hideM h
                                  clear h
                                  have HF : Hid (R = ((m.datas.drop (j + 1)).all (fun x => cstOk x.offset))) := hideM (by rw [HK.out, all_on HN.out rfl, HP.out, H_0.out]; first | done | simp)
                                  clear HK HN HP H_0
                                  go_wp2
                                  go_roundw
                                  case rel => exact ⟨j + 1, by omega, by go_num, HF, HB_0⟩
                                  case measure => simp [intOf]; omega
                                · have HEk : Hid (R = true) := hideM (by rw [HK.out, all_end (by omega) (rfl : _ = (m.datas.drop j).all (fun x => cstOk x.offset))]; first | done | rfl | simp)
                                  clear HK
                                  generalize wr = wok at *
                                  obtain ⟨q0, q1, q2, q3, q4, q5, q6, q7, q8, q9, qb⟩ := HBk.out
                                  clear qb
                                  go_wp2
                                  go_end0
                                  exact ⟨.inl ⟨HEk.out, rfl⟩, HBk.out.bel⟩
end Go.Proofs.YtlpnoelolkbmmaaDoor
