/- The law WastSame over what its functions answer: printed by gen_lsame.py. -/
import Derived.Test.YtmedpblpcfobdaaDoorVC6
import Derived.Test.YtmedpblpcfobdaaDoorVG3
import Derived.Test.YtmedpblpcfobdaaDoorVP4s
import Derived.Test.YtmedpblpcfobdaaDoorVWK
import Derived.Deep.RegionLaw
import Derived.Deep.CutRange
namespace Go.Proofs.YtmedpblpcfobdaaDoor
open Go.RowKit Rep
set_option linter.unusedVariables false
namespace Rep
/-- a module, copied -/
def sCop {d : Nat} (x : Mod d) : Stab := ⟨fun v w => ∃ g0 m0 j0 g1 m1 j1 g2 m2 j2 g3 m3 j3 g4 m4 j4 g5 m5 j5 g6 m6 j6 g7 m7 j7 g8 m8 j8 g9 m9 j9, v = .agg #[.slice g0 m0 j0, .slice g1 m1 j1, .slice g2 m2 j2, .slice g3 m3 j3, .slice g4 m4 j4, .slice g5 m5 j5, .slice g6 m6 j6, .slice g7 m7 j7, .slice g8 m8 j8, .slice g9 m9 j9] ∧ ModAt w d (.slice g0 m0 j0) (.slice g1 m1 j1) (.slice g2 m2 j2) (.slice g3 m3 j3) (.slice g4 m4 j4) (.slice g5 m5 j5) (.slice g6 m6 j6) (.slice g7 m7 j7) (.slice g8 m8 j8) (.slice g9 m9 j9) x, fun v w w' ⟨g0, m0, j0, g1, m1, j1, g2, m2, j2, g3, m3, j3, g4, m4, j4, g5, m5, j5, g6, m6, j6, g7, m7, j7, g8, m8, j8, g9, m9, j9, h1, hm⟩ hb => ⟨g0, m0, j0, g1, m1, j1, g2, m2, j2, g3, m3, j3, g4, m4, j4, g5, m5, j5, g6, m6, j6, g7, m7, j7, g8, m8, j8, g9, m9, j9, h1, hm.on hb⟩⟩
theorem sCop_of {d : Nat} {x : Mod d} {w : World} {u0 u1 u2 u3 u4 u5 u6 u7 u8 u9 : Value} (h : ModAt w d u0 u1 u2 u3 u4 u5 u6 u7 u8 u9 x) : (sCop x).1 (.agg #[u0, u1, u2, u3, u4, u5, u6, u7, u8, u9]) w := by
  obtain ⟨g0, h0, rfl⟩ := Row.len h.types
  obtain ⟨g1, h1, rfl⟩ := Row.len h.imports
  obtain ⟨g2, h2, rfl⟩ := Row.len h.funcs
  obtain ⟨g3, h3, rfl⟩ := Row.len h.tables
  obtain ⟨g4, h4, rfl⟩ := Row.len h.mems
  obtain ⟨g5, h5, rfl⟩ := Row.len h.globals
  obtain ⟨g6, h6, rfl⟩ := Row.len h.exports
  obtain ⟨g7, h7, rfl⟩ := Row.len h.start
  obtain ⟨g8, h8, rfl⟩ := Row.len h.elems
  obtain ⟨g9, h9, rfl⟩ := Row.len h.datas
  exact ⟨_, _, _, _, _, _, _, _, _, _, _, _, _, _, _, _, _, _, _, _, _, _, _, _, _, _, _, _, _, _, rfl, h⟩
def L5 {d : Nat} (x y : Mod d) (n0 n1 n2 n3 n4 n5 n6 n7 n8 n9 k0 k1 k2 k3 k4 k5 k6 k7 k8 k9 m0 m1 m2 m3 m4 m5 m6 m7 m8 m9 j0 j1 j2 j3 j4 j5 j6 j7 j8 j9 : Nat) (o0 o1 o2 o3 o4 o5 o6 o7 o8 o9 g0 g1 g2 g3 g4 g5 g6 g7 g8 g9 : Option Addr) : Nat → Stab
  | 0 => sEq (.agg #[.slice o0 n0 k0, .slice o1 n1 k1, .slice o2 n2 k2, .slice o3 n3 k3, .slice o4 n4 k4, .slice o5 n5 k5, .slice o6 n6 k6, .slice o7 n7 k7, .slice o8 n8 k8, .slice o9 n9 k9])
  | 1 => sCop x
  | 2 => sEq (.agg #[.slice g0 m0 j0, .slice g1 m1 j1, .slice g2 m2 j2, .slice g3 m3 j3, .slice g4 m4 j4, .slice g5 m5 j5, .slice g6 m6 j6, .slice g7 m7 j7, .slice g8 m8 j8, .slice g9 m9 j9])
  | 3 => sCop y
  | 4 => sEq (.bool (samM x y))
  | 5 => sEq (.agg #[.slice o0 n0 k0, .slice o1 n1 k1, .slice o2 n2 k2, .slice o3 n3 k3, .slice o4 n4 k4, .slice o5 n5 k5, .slice o6 n6 k6, .slice o7 n7 k7, .slice o8 n8 k8, .slice o9 n9 k9])
  | 6 => sEq (.agg #[.slice g0 m0 j0, .slice g1 m1 j1, .slice g2 m2 j2, .slice g3 m3 j3, .slice g4 m4 j4, .slice g5 m5 j5, .slice g6 m6 j6, .slice g7 m7 j7, .slice g8 m8 j8, .slice g9 m9 j9])
  | 7 => sEq (.bool (samM x y))
  | 8 => sEq (.bool true)
  | 9 => sEq (.bool true)
  | 10 => sEq (.agg #[.slice o0 n0 k0, .slice o1 n1 k1, .slice o2 n2 k2, .slice o3 n3 k3, .slice o4 n4 k4, .slice o5 n5 k5, .slice o6 n6 k6, .slice o7 n7 k7, .slice o8 n8 k8, .slice o9 n9 k9])
  | 11 => sCop x
  | 12 => sEq (.agg #[.slice o0 n0 k0, .slice o1 n1 k1, .slice o2 n2 k2, .slice o3 n3 k3, .slice o4 n4 k4, .slice o5 n5 k5, .slice o6 n6 k6, .slice o7 n7 k7, .slice o8 n8 k8, .slice o9 n9 k9])
  | 13 => sCop x
  | 14 => sEq (.bool true)
  | 15 => sEq (.bool true)
  | 16 => sEq (.bool true)
  | 17 => sEq (.bool true)
  | 18 => sEq (.bool true)
  | 19 => sEq (.bool true)
  | _ => sEq undef
theorem dlen19 {x : List Value} (h : x.length = 19) : ∃ x0 x1 x2 x3 x4 x5 x6 x7 x8 x9 x10 x11 x12 x13 x14 x15 x16 x17 x18, x = [x0, x1, x2, x3, x4, x5, x6, x7, x8, x9, x10, x11, x12, x13, x14, x15, x16, x17, x18] := by
  match x, h with
  | [x0, x1, x2, x3, x4, x5, x6, x7, x8, x9, x10, x11, x12, x13, x14, x15, x16, x17, x18], _ => exact ⟨x0, x1, x2, x3, x4, x5, x6, x7, x8, x9, x10, x11, x12, x13, x14, x15, x16, x17, x18, rfl⟩
end Rep
set_option maxRecDepth 100000 in
set_option maxHeartbeats 16000000 in
theorem sameC {I : World → Prop} (C : WastC I) (d1 : Nat) (v0 v1 v2 v3 v4 v5 v6 v7 v8 v9 : Value) (m : Mod d1) (d2 : Nat) (u0 u1 u2 u3 u4 u5 u6 u7 u8 u9 : Value) (k : Mod d2) (w : World) (hI : I w) (hM : ModAt w d1 v0 v1 v2 v3 v4 v5 v6 v7 v8 v9 m) (hsz : ∀ x ∈ m.datas, x.bytes.size ≤ 9223372036854775807) (hX : Texts m) (hN : ModAt w d2 u0 u1 u2 u3 u4 u5 u6 u7 u8 u9 k) (hsz2 : ∀ x ∈ k.datas, x.bytes.size ≤ 9223372036854775807) (hX2 : Texts k) :
    Calls Tryd.prog 5 #[.agg #[v0, v1, v2, v3, v4, v5, v6, v7, v8, v9], .agg #[u0, u1, u2, u3, u4, u5, u6, u7, u8, u9]] w fun e w' => e = .returned (.bool true) ∧ Below w.heap.size w w' := by
  obtain ⟨o0, k0, rfl⟩ := Row.len hM.types
  obtain ⟨o1, k1, rfl⟩ := Row.len hM.imports
  obtain ⟨o2, k2, rfl⟩ := Row.len hM.funcs
  obtain ⟨o3, k3, rfl⟩ := Row.len hM.tables
  obtain ⟨o4, k4, rfl⟩ := Row.len hM.mems
  obtain ⟨o5, k5, rfl⟩ := Row.len hM.globals
  obtain ⟨o6, k6, rfl⟩ := Row.len hM.exports
  obtain ⟨o7, k7, rfl⟩ := Row.len hM.start
  obtain ⟨o8, k8, rfl⟩ := Row.len hM.elems
  obtain ⟨o9, k9, rfl⟩ := Row.len hM.datas
  obtain ⟨g0, j0, rfl⟩ := Row.len hN.types
  obtain ⟨g1, j1, rfl⟩ := Row.len hN.imports
  obtain ⟨g2, j2, rfl⟩ := Row.len hN.funcs
  obtain ⟨g3, j3, rfl⟩ := Row.len hN.tables
  obtain ⟨g4, j4, rfl⟩ := Row.len hN.mems
  obtain ⟨g5, j5, rfl⟩ := Row.len hN.globals
  obtain ⟨g6, j6, rfl⟩ := Row.len hN.exports
  obtain ⟨g7, j7, rfl⟩ := Row.len hN.start
  obtain ⟨g8, j8, rfl⟩ := Row.len hN.elems
  obtain ⟨g9, j9, rfl⟩ := Row.len hN.datas
  have HLG := hideR (fun (w2 : World) (hb : Below w.heap.size w w2) => pLarge d1 _ _ _ _ _ _ _ _ _ _ m w2 (hM.on hb) hsz)
  have HLG2 := hideR (fun (w2 : World) (hb : Below w.heap.size w w2) => pLarge d2 _ _ _ _ _ _ _ _ _ _ k w2 (hN.on hb) hsz2)
  have HI := hideR hI
  clear hM hX hI hsz hN hX2 hsz2
  generalize m.types.length = n0 at *
  generalize m.imports.length = n1 at *
  generalize m.funcs.length = n2 at *
  generalize m.tables.length = n3 at *
  generalize m.mems.length = n4 at *
  generalize m.globals.length = n5 at *
  generalize m.exports.length = n6 at *
  generalize m.start.length = n7 at *
  generalize m.elems.length = n8 at *
  generalize m.datas.length = n9 at *
  generalize k.types.length = m0 at *
  generalize k.imports.length = m1 at *
  generalize k.funcs.length = m2 at *
  generalize k.tables.length = m3 at *
  generalize k.mems.length = m4 at *
  generalize k.globals.length = m5 at *
  generalize k.exports.length = m6 at *
  generalize k.start.length = m7 at *
  generalize k.elems.length = m8 at *
  generalize k.datas.length = m9 at *
  go_enter Tryd.func5, Tryd.ntmps5
  go_upto_region 1 with fail
  obtain ⟨u1, hu1⟩ : ∃ u1, u1 = (w.alloc (.cells #[.slice o0 n0 k0, .slice o1 n1 k1, .slice o2 n2 k2, .slice o3 n3 k3, .slice o4 n4 k4, .slice o5 n5 k5, .slice o6 n6 k6, .slice o7 n7 k7, .slice o8 n8 k8, .slice o9 n9 k9] 36)).alloc (.cells #[.slice g0 m0 j0, .slice g1 m1 j1, .slice g2 m2 j2, .slice g3 m3 j3, .slice g4 m4 j4, .slice g5 m5 j5, .slice g6 m6 j6, .slice g7 m7 j7, .slice g8 m8 j8, .slice g9 m9 j9] 36) := ⟨_, rfl⟩
  have HB1 : Hid (BlkM u1 w.heap.size (.slice o0 n0 k0) (.slice o1 n1 k1) (.slice o2 n2 k2) (.slice o3 n3 k3) (.slice o4 n4 k4) (.slice o5 n5 k5) (.slice o6 n6 k6) (.slice o7 n7 k7) (.slice o8 n8 k8) (.slice o9 n9 k9)) := hideR (by rw [hu1]; exact (BlkM.new rfl).on (new_on' _ _))
  have HB2 : Hid (BlkM u1 (w.heap.size + 1) (.slice g0 m0 j0) (.slice g1 m1 j1) (.slice g2 m2 j2) (.slice g3 m3 j3) (.slice g4 m4 j4) (.slice g5 m5 j5) (.slice g6 m6 j6) (.slice g7 m7 j7) (.slice g8 m8 j8) (.slice g9 m9 j9)) := hideR (by rw [hu1]; exact BlkM.new (by simp))
  have HU : Hid (Below w.heap.size w u1) := hideR (by rw [hu1]; exact below_go' (new_on' _ _) (new_on' _ _))
  rw [← hu1]
  clear hu1
  obtain ⟨p2, hp2⟩ : ∃ p2, p2 = w.heap.size + 1 := ⟨_, rfl⟩
  rw [← hp2] at HB2 ⊢
  clear hp2
  have HL1 := hideR (HLG.out u1 HU.out)
  clear HLG
  generalize hp1 : w.heap.size = p1 at HB1 ⊢
  have c0 := HB1.out.cell 0 _ rfl
  have c1 := HB1.out.cell 1 _ rfl
  have c2 := HB1.out.cell 2 _ rfl
  have c3 := HB1.out.cell 3 _ rfl
  have c4 := HB1.out.cell 4 _ rfl
  have c5 := HB1.out.cell 5 _ rfl
  have c6 := HB1.out.cell 6 _ rfl
  have c7 := HB1.out.cell 7 _ rfl
  have c8 := HB1.out.cell 8 _ rfl
  have c9 := HB1.out.cell 9 _ rfl
  go_wp2_with fail
  refine HL1.out.mono ?_
  rintro e w1 ⟨hb1, hor⟩
  have HW1 := hideR hb1
  have HI1 := hideR (C.keep (below_go' HU.out hb1) HI.out)
  clear c0 c1 c2 c3 c4 c5 c6 c7 c8 c9
  rcases hor with rfl | ⟨rfl, x, hx, hs, hi1, hi2⟩
  · clear hb1
    go_wp2_with fail
    refine (pWakes C _ HI1.out).mono ?_
    rintro e w9 ⟨rfl, hb9⟩
    have HB9 := hideR (below_go' (below_go' HU.out HW1.out) hb9)
    clear hb9
    go_wp2
    go_ret
    exact ⟨rfl, hp1 ▸ HB9.out⟩
  · have HMX := hideR hx
    have HSX := hideR hs
    clear hx hs hi1 hi2 hb1 HL1
    have c0 := (HB2.out.on HW1.out).cell 0 _ rfl
    have c1 := (HB2.out.on HW1.out).cell 1 _ rfl
    have c2 := (HB2.out.on HW1.out).cell 2 _ rfl
    have c3 := (HB2.out.on HW1.out).cell 3 _ rfl
    have c4 := (HB2.out.on HW1.out).cell 4 _ rfl
    have c5 := (HB2.out.on HW1.out).cell 5 _ rfl
    have c6 := (HB2.out.on HW1.out).cell 6 _ rfl
    have c7 := (HB2.out.on HW1.out).cell 7 _ rfl
    have c8 := (HB2.out.on HW1.out).cell 8 _ rfl
    have c9 := (HB2.out.on HW1.out).cell 9 _ rfl
    have HL2 := hideR (HLG2.out w1 (below_go' HU.out HW1.out))
    clear HLG2
    go_wp2_with fail
    refine HL2.out.mono ?_
    rintro e w2 ⟨hb2, hor⟩
    have HW2 := hideR (below_go' HW1.out hb2)
    have HI2 := hideR (C.keep hb2 HI1.out)
    have HMX2 := hideR (HMX.out.on hb2)
    clear c0 c1 c2 c3 c4 c5 c6 c7 c8 c9
    rcases hor with rfl | ⟨rfl, y, hy, hs, hi1, hi2⟩
    · clear hb2
      go_wp2_with fail
      refine (pWakes C _ HI2.out).mono ?_
      rintro e w9 ⟨rfl, hb9⟩
      have HB9 := hideR (below_go' (below_go' HU.out HW2.out) hb9)
      clear hb9
      go_wp2
      go_ret
      exact ⟨rfl, hp1 ▸ HB9.out⟩
    · have HMY := hideR hy
      have HSY := hideR hs
      clear hy hs hi1 hi2 hb2 HL2 HMX HI1 HI HW1
      have HP1 := hideR (HB1.out.on HW2.out)
      have HP2 := hideR (HB2.out.on HW2.out)
      clear HB1 HB2
      have HSR : Hid (samM x x = true) := hideR (samM_refl x)
      go_upto_region 3 with fail
      refine Reg.wp_region_all 20 (fun i => if i < 19 then 12 + i else 4) (fun i => (L5 x y n0 n1 n2 n3 n4 n5 n6 n7 n8 n9 k0 k1 k2 k3 k4 k5 k6 k7 k8 k9 m0 m1 m2 m3 m4 m5 m6 m7 m8 m9 j0 j1 j2 j3 j4 j5 j6 j7 j8 j9 o0 o1 o2 o3 o4 o5 o6 o7 o8 o9 g0 g1 g2 g3 g4 g5 g6 g7 g8 g9 i).1) (by kernel_rfl) (by kernel_rfl) (fun i j h1 h2 h => by have h' : (if i < 19 then 12 + i else 4) = (if j < 19 then 12 + j else 4) := h; split at h' <;> split at h' <;> omega) (Reg.dst_okG (size := 31) (by kernel_rfl)) (fun i v w w' _ h hb => (L5 x y n0 n1 n2 n3 n4 n5 n6 n7 n8 n9 k0 k1 k2 k3 k4 k5 k6 k7 k8 k9 m0 m1 m2 m3 m4 m5 m6 m7 m8 m9 j0 j1 j2 j3 j4 j5 j6 j7 j8 j9 o0 o1 o2 o3 o4 o5 o6 o7 o8 o9 g0 g1 g2 g3 g4 g5 g6 g7 g8 g9 i).2 v w w' h hb) ?hstep ?hend
      case hstep =>
        intro i o a w3 hi ho hF hB hd
        have f2 : a.tmps[2]?.getD undef = .pointer (some ⟨p1, 0, none⟩) := Reg.ev_get (hF.eval 2 (fun i hi => by show (if i < 19 then 12 + i else 4) ≠ 2; split <;> omega))
        have f3 : a.tmps[3]?.getD undef = .pointer (some ⟨p2, 0, none⟩) := Reg.ev_get (hF.eval 3 (fun i hi => by show (if i < 19 then 12 + i else 4) ≠ 3; split <;> omega))
        have c0 := (HP1.out.on hB).cell 0 _ rfl
        have c1 := (HP1.out.on hB).cell 1 _ rfl
        have c2 := (HP1.out.on hB).cell 2 _ rfl
        have c3 := (HP1.out.on hB).cell 3 _ rfl
        have c4 := (HP1.out.on hB).cell 4 _ rfl
        have c5 := (HP1.out.on hB).cell 5 _ rfl
        have c6 := (HP1.out.on hB).cell 6 _ rfl
        have c7 := (HP1.out.on hB).cell 7 _ rfl
        have c8 := (HP1.out.on hB).cell 8 _ rfl
        have c9 := (HP1.out.on hB).cell 9 _ rfl
        have d0 := (HP2.out.on hB).cell 0 _ rfl
        have d1 := (HP2.out.on hB).cell 1 _ rfl
        have d2 := (HP2.out.on hB).cell 2 _ rfl
        have d3 := (HP2.out.on hB).cell 3 _ rfl
        have d4 := (HP2.out.on hB).cell 4 _ rfl
        have d5 := (HP2.out.on hB).cell 5 _ rfl
        have d6 := (HP2.out.on hB).cell 6 _ rfl
        have d7 := (HP2.out.on hB).cell 7 _ rfl
        have d8 := (HP2.out.on hB).cell 8 _ rfl
        have d9 := (HP2.out.on hB).cell 9 _ rfl
        have hcase : i = 0 ∨ i = 1 ∨ i = 2 ∨ i = 3 ∨ i = 4 ∨ i = 5 ∨ i = 6 ∨ i = 7 ∨ i = 8 ∨ i = 9 ∨ i = 10 ∨ i = 11 ∨ i = 12 ∨ i = 13 ∨ i = 14 ∨ i = 15 ∨ i = 16 ∨ i = 17 ∨ i = 18 ∨ i = 19 := by omega
        clear hi
        rcases hcase with rfl | rfl | rfl | rfl | rfl | rfl | rfl | rfl | rfl | rfl | rfl | rfl | rfl | rfl | rfl | rfl | rfl | rfl | rfl | rfl
        · simp only [List.getElem?_toArray, List.getElem?_cons_zero, Option.some.injEq] at ho
          subst ho
          refine Reg.Does.go rfl (Reg.step_k fun K hK => ?_)
          go_simp
          exact hK _ _ ⟨_, rfl, Below.refl _ _, rfl⟩
        · simp only [List.getElem?_toArray, List.getElem?_cons_succ, List.getElem?_cons_zero, Option.some.injEq] at ho
          subst ho
          refine Reg.Does.go rfl (Reg.step_k fun K hK => ?_)
          have q0 : a.tmps[12]?.getD undef = .agg #[.slice o0 n0 k0, .slice o1 n1 k1, .slice o2 n2 k2, .slice o3 n3 k3, .slice o4 n4 k4, .slice o5 n5 k5, .slice o6 n6 k6, .slice o7 n7 k7, .slice o8 n8 k8, .slice o9 n9 k9] := Reg.ev_get (hd 0 (by decide))
          have HKK := hideR hK
          clear hK
          go_simp
          refine (refCopy 81 _ _ _ _ _ _ _ _ _ _ x w3 (HMX2.out.on hB) HSX.out).mono ?_
          rintro e w4 ⟨u0, u1, u2, u3, u4, u5, u6, u7, u8, u9, rfl, hm3, hb3, _, _⟩
          exact HKK.out _ _ ⟨_, rfl, hb3, sCop_of hm3⟩
        · simp only [List.getElem?_toArray, List.getElem?_cons_succ, List.getElem?_cons_zero, Option.some.injEq] at ho
          subst ho
          refine Reg.Does.go rfl (Reg.step_k fun K hK => ?_)
          go_simp
          exact hK _ _ ⟨_, rfl, Below.refl _ _, rfl⟩
        · simp only [List.getElem?_toArray, List.getElem?_cons_succ, List.getElem?_cons_zero, Option.some.injEq] at ho
          subst ho
          refine Reg.Does.go rfl (Reg.step_k fun K hK => ?_)
          have q0 : a.tmps[14]?.getD undef = .agg #[.slice g0 m0 j0, .slice g1 m1 j1, .slice g2 m2 j2, .slice g3 m3 j3, .slice g4 m4 j4, .slice g5 m5 j5, .slice g6 m6 j6, .slice g7 m7 j7, .slice g8 m8 j8, .slice g9 m9 j9] := Reg.ev_get (hd 2 (by decide))
          have HKK := hideR hK
          clear hK
          go_simp
          refine (refCopy 81 _ _ _ _ _ _ _ _ _ _ y w3 (HMY.out.on hB) HSY.out).mono ?_
          rintro e w4 ⟨u0, u1, u2, u3, u4, u5, u6, u7, u8, u9, rfl, hm3, hb3, _, _⟩
          exact HKK.out _ _ ⟨_, rfl, hb3, sCop_of hm3⟩
        · simp only [List.getElem?_toArray, List.getElem?_cons_succ, List.getElem?_cons_zero, Option.some.injEq] at ho
          subst ho
          refine Reg.Does.go rfl (Reg.step_k fun K hK => ?_)
          obtain ⟨ag0, am0, aj0, ag1, am1, aj1, ag2, am2, aj2, ag3, am3, aj3, ag4, am4, aj4, ag5, am5, aj5, ag6, am6, aj6, ag7, am7, aj7, ag8, am8, aj8, ag9, am9, aj9, hva, hma⟩ := (show (sCop x).1 (a.eval (.tmp 13)) w3 from hd 1 (by decide))
          obtain ⟨bg0, bm0, bj0, bg1, bm1, bj1, bg2, bm2, bj2, bg3, bm3, bj3, bg4, bm4, bj4, bg5, bm5, bj5, bg6, bm6, bj6, bg7, bm7, bj7, bg8, bm8, bj8, bg9, bm9, bj9, hvb, hmb⟩ := (show (sCop y).1 (a.eval (.tmp 15)) w3 from hd 3 (by decide))
          have q0 := Reg.ev_get hva
          have q1 := Reg.ev_get hvb
          have HMA := hideR hma
          have HMB := hideR hmb
          clear hva hvb hma hmb
          have HKK := hideR hK
          clear hK
          go_simp
          refine (pSame x y _ _ _ _ _ _ _ _ _ _ _ _ _ _ _ _ _ _ _ _ _ _ _ _ _ _ _ _ _ _ _ _ _ _ _ _ _ _ _ _ _ _ _ _ _ _ _ _ _ _ _ _ _ _ _ _ _ _ _ _ w3 HMA.out HMB.out).mono ?_
          rintro e w4 ⟨rfl, hb3⟩
          exact HKK.out _ _ ⟨_, rfl, hb3, rfl⟩
        · simp only [List.getElem?_toArray, List.getElem?_cons_succ, List.getElem?_cons_zero, Option.some.injEq] at ho
          subst ho
          refine Reg.Does.go rfl (Reg.step_k fun K hK => ?_)
          go_simp
          exact hK _ _ ⟨_, rfl, Below.refl _ _, rfl⟩
        · simp only [List.getElem?_toArray, List.getElem?_cons_succ, List.getElem?_cons_zero, Option.some.injEq] at ho
          subst ho
          refine Reg.Does.go rfl (Reg.step_k fun K hK => ?_)
          go_simp
          exact hK _ _ ⟨_, rfl, Below.refl _ _, rfl⟩
        · simp only [List.getElem?_toArray, List.getElem?_cons_succ, List.getElem?_cons_zero, Option.some.injEq] at ho
          subst ho
          refine Reg.Does.go rfl (Reg.step_k fun K hK => ?_)
          have q0 : a.tmps[17]?.getD undef = .agg #[.slice o0 n0 k0, .slice o1 n1 k1, .slice o2 n2 k2, .slice o3 n3 k3, .slice o4 n4 k4, .slice o5 n5 k5, .slice o6 n6 k6, .slice o7 n7 k7, .slice o8 n8 k8, .slice o9 n9 k9] := Reg.ev_get (hd 5 (by decide))
          have q1 : a.tmps[18]?.getD undef = .agg #[.slice g0 m0 j0, .slice g1 m1 j1, .slice g2 m2 j2, .slice g3 m3 j3, .slice g4 m4 j4, .slice g5 m5 j5, .slice g6 m6 j6, .slice g7 m7 j7, .slice g8 m8 j8, .slice g9 m9 j9] := Reg.ev_get (hd 6 (by decide))
          have HKK := hideR hK
          clear hK
          go_simp
          refine (refSame 81 _ _ _ _ _ _ _ _ _ _ _ _ _ _ _ _ _ _ _ _ x y w3 (HMX2.out.on hB) (HMY.out.on hB)).mono ?_
          rintro e w4 ⟨rfl, hb3⟩
          exact HKK.out _ _ ⟨_, rfl, hb3, rfl⟩
        · simp only [List.getElem?_toArray, List.getElem?_cons_succ, List.getElem?_cons_zero, Option.some.injEq] at ho
          subst ho
          refine Reg.Does.go rfl (Reg.step_k fun K hK => ?_)
          have q0 : a.tmps[16]?.getD undef = .bool (samM x y) := Reg.ev_get (hd 4 (by decide))
          have q1 : a.tmps[19]?.getD undef = .bool (samM x y) := Reg.ev_get (hd 7 (by decide))
          go_simp
          exact hK _ _ ⟨_, rfl, Below.refl _ _, rfl⟩
        · simp only [List.getElem?_toArray, List.getElem?_cons_succ, List.getElem?_cons_zero, Option.some.injEq] at ho
          subst ho
          refine Reg.Does.go rfl (Reg.step_k fun K hK => ?_)
          have q0 : a.tmps[20]?.getD undef = .bool true := Reg.ev_get (hd 8 (by decide))
          go_simp
          exact hK _ _ ⟨_, rfl, Below.refl _ _, rfl⟩
        · simp only [List.getElem?_toArray, List.getElem?_cons_succ, List.getElem?_cons_zero, Option.some.injEq] at ho
          subst ho
          have qg : a.eval (.tmp 21) = .bool true := hd 9 (by decide)
          refine Reg.Does.wanted rfl rfl rfl qg (Reg.step_k fun K hK => ?_)
          clear qg
          go_simp
          exact hK _ _ ⟨_, rfl, Below.refl _ _, rfl⟩
        · simp only [List.getElem?_toArray, List.getElem?_cons_succ, List.getElem?_cons_zero, Option.some.injEq] at ho
          subst ho
          have qg : a.eval (.tmp 21) = .bool true := hd 9 (by decide)
          refine Reg.Does.wanted rfl rfl rfl qg (Reg.step_k fun K hK => ?_)
          clear qg
          have q0 : a.tmps[22]?.getD undef = .agg #[.slice o0 n0 k0, .slice o1 n1 k1, .slice o2 n2 k2, .slice o3 n3 k3, .slice o4 n4 k4, .slice o5 n5 k5, .slice o6 n6 k6, .slice o7 n7 k7, .slice o8 n8 k8, .slice o9 n9 k9] := Reg.ev_get (hd 10 (by decide))
          have HKK := hideR hK
          clear hK
          go_simp
          refine (refCopy 81 _ _ _ _ _ _ _ _ _ _ x w3 (HMX2.out.on hB) HSX.out).mono ?_
          rintro e w4 ⟨u0, u1, u2, u3, u4, u5, u6, u7, u8, u9, rfl, hm3, hb3, _, _⟩
          exact HKK.out _ _ ⟨_, rfl, hb3, sCop_of hm3⟩
        · simp only [List.getElem?_toArray, List.getElem?_cons_succ, List.getElem?_cons_zero, Option.some.injEq] at ho
          subst ho
          have qg : a.eval (.tmp 21) = .bool true := hd 9 (by decide)
          refine Reg.Does.wanted rfl rfl rfl qg (Reg.step_k fun K hK => ?_)
          clear qg
          go_simp
          exact hK _ _ ⟨_, rfl, Below.refl _ _, rfl⟩
        · simp only [List.getElem?_toArray, List.getElem?_cons_succ, List.getElem?_cons_zero, Option.some.injEq] at ho
          subst ho
          have qg : a.eval (.tmp 21) = .bool true := hd 9 (by decide)
          refine Reg.Does.wanted rfl rfl rfl qg (Reg.step_k fun K hK => ?_)
          clear qg
          have q0 : a.tmps[24]?.getD undef = .agg #[.slice o0 n0 k0, .slice o1 n1 k1, .slice o2 n2 k2, .slice o3 n3 k3, .slice o4 n4 k4, .slice o5 n5 k5, .slice o6 n6 k6, .slice o7 n7 k7, .slice o8 n8 k8, .slice o9 n9 k9] := Reg.ev_get (hd 12 (by decide))
          have HKK := hideR hK
          clear hK
          go_simp
          refine (refCopy 81 _ _ _ _ _ _ _ _ _ _ x w3 (HMX2.out.on hB) HSX.out).mono ?_
          rintro e w4 ⟨u0, u1, u2, u3, u4, u5, u6, u7, u8, u9, rfl, hm3, hb3, _, _⟩
          exact HKK.out _ _ ⟨_, rfl, hb3, sCop_of hm3⟩
        · simp only [List.getElem?_toArray, List.getElem?_cons_succ, List.getElem?_cons_zero, Option.some.injEq] at ho
          subst ho
          have qg : a.eval (.tmp 21) = .bool true := hd 9 (by decide)
          refine Reg.Does.wanted rfl rfl rfl qg (Reg.step_k fun K hK => ?_)
          clear qg
          obtain ⟨ag0, am0, aj0, ag1, am1, aj1, ag2, am2, aj2, ag3, am3, aj3, ag4, am4, aj4, ag5, am5, aj5, ag6, am6, aj6, ag7, am7, aj7, ag8, am8, aj8, ag9, am9, aj9, hva, hma⟩ := (show (sCop x).1 (a.eval (.tmp 23)) w3 from hd 11 (by decide))
          obtain ⟨bg0, bm0, bj0, bg1, bm1, bj1, bg2, bm2, bj2, bg3, bm3, bj3, bg4, bm4, bj4, bg5, bm5, bj5, bg6, bm6, bj6, bg7, bm7, bj7, bg8, bm8, bj8, bg9, bm9, bj9, hvb, hmb⟩ := (show (sCop x).1 (a.eval (.tmp 25)) w3 from hd 13 (by decide))
          have q0 := Reg.ev_get hva
          have q1 := Reg.ev_get hvb
          have HMA := hideR hma
          have HMB := hideR hmb
          clear hva hvb hma hmb
          have HKK := hideR hK
          clear hK
          go_simp
          refine (pSame x x _ _ _ _ _ _ _ _ _ _ _ _ _ _ _ _ _ _ _ _ _ _ _ _ _ _ _ _ _ _ _ _ _ _ _ _ _ _ _ _ _ _ _ _ _ _ _ _ _ _ _ _ _ _ _ _ _ _ _ _ w3 HMA.out HMB.out).mono ?_
          rintro e w4 ⟨rfl, hb3⟩
          exact HKK.out _ _ ⟨_, rfl, hb3, by rw [HSR.out]; rfl⟩
        · simp only [List.getElem?_toArray, List.getElem?_cons_succ, List.getElem?_cons_zero, Option.some.injEq] at ho
          subst ho
          refine Reg.Does.go rfl (Reg.step_k fun K hK => ?_)
          have q0 : a.tmps[21]?.getD undef = .bool true := Reg.ev_get (hd 9 (by decide))
          have q1 : a.tmps[26]?.getD undef = .bool true := Reg.ev_get (hd 14 (by decide))
          go_simp
          exact hK _ _ ⟨_, rfl, Below.refl _ _, rfl⟩
        · simp only [List.getElem?_toArray, List.getElem?_cons_succ, List.getElem?_cons_zero, Option.some.injEq] at ho
          subst ho
          refine Reg.Does.go rfl (Reg.step_k fun K hK => ?_)
          have q0 : a.tmps[27]?.getD undef = .bool true := Reg.ev_get (hd 15 (by decide))
          go_simp
          exact hK _ _ ⟨_, rfl, Below.refl _ _, rfl⟩
        · simp only [List.getElem?_toArray, List.getElem?_cons_succ, List.getElem?_cons_zero, Option.some.injEq] at ho
          subst ho
          have qg : a.eval (.tmp 28) = .bool true := hd 16 (by decide)
          refine Reg.Does.wanted rfl rfl rfl qg (Reg.step_k fun K hK => ?_)
          clear qg
          have HKK := hideR hK
          clear hK
          go_simp
          refine (pWakes C w3 (C.keep hB HI2.out)).mono ?_
          rintro e w4 ⟨rfl, hb3⟩
          exact HKK.out _ _ ⟨_, rfl, hb3, rfl⟩
        · simp only [List.getElem?_toArray, List.getElem?_cons_succ, List.getElem?_cons_zero, Option.some.injEq] at ho
          subst ho
          refine Reg.Does.go rfl (Reg.step_k fun K hK => ?_)
          have q0 : a.tmps[28]?.getD undef = .bool true := Reg.ev_get (hd 16 (by decide))
          have q1 : a.tmps[29]?.getD undef = .bool true := Reg.ev_get (hd 17 (by decide))
          go_simp
          exact hK _ _ ⟨_, rfl, Below.refl _ _, rfl⟩
        · simp only [List.getElem?_toArray, List.getElem?_cons_succ, List.getElem?_cons_zero, Option.some.injEq] at ho
          subst ho
          refine Reg.Does.go rfl (Reg.step_k fun K hK => ?_)
          have q0 : a.tmps[30]?.getD undef = .bool true := Reg.ev_get (hd 18 (by decide))
          go_simp
          exact hK _ _ ⟨_, rfl, Below.refl _ _, rfl⟩
      case hend =>
        intro a w5 hF hB hG
        have gl : a.eval (.tmp 4) = .bool true := hG 19 (by omega)
        have HBE := hideR (below_go' (below_go' HU.out HW2.out) hB)
        obtain ⟨yy, xl, hxl, rfl, hyy, hev⟩ := hF.lit2 (n := 19) (lo := 12) (s := 4) (by decide) (by simp)
        obtain ⟨x0, x1, x2, x3, x4, x5, x6, x7, x8, x9, x10, x11, x12, x13, x14, x15, x16, x17, x18, rfl⟩ := dlen19 hxl
        obtain rfl : yy = .bool true := hyy.symm.trans gl
        clear hev hyy hxl hF hG hB
        simp only [List.take_succ_cons, List.take_zero, List.drop_succ_cons, List.drop_zero, List.cons_append, List.nil_append]
        go_wp2
        go_ret
        exact ⟨rfl, hp1 ▸ HBE.out⟩
end Go.Proofs.YtmedpblpcfobdaaDoor
