/- The law WastChecks over what its functions answer: printed by gen_checks.py. -/
import Derived.Test.YtmedpblpcfobdaaDoorQC6
import Derived.Test.YtmedpblpcfobdaaDoorQG3
import Derived.Test.YtmedpblpcfobdaaDoorQJR5
import Derived.Test.YtmedpblpcfobdaaDoorQWK
import Derived.Deep.RegionLaw
import Derived.Deep.CutRange
namespace Go.Proofs.YtmedpblpcfobdaaDoor
open Go.RowKit Rep
set_option linter.unusedVariables false
namespace Rep
/-- a module, copied -/
def sMod {d : Nat} (x : Mod d) : Stab := ⟨fun v w => ∃ g0 m0 j0 g1 m1 j1 g2 m2 j2 g3 m3 j3 g4 m4 j4 g5 m5 j5 g6 m6 j6 g7 m7 j7 g8 m8 j8 g9 m9 j9, v = .agg #[.slice g0 m0 j0, .slice g1 m1 j1, .slice g2 m2 j2, .slice g3 m3 j3, .slice g4 m4 j4, .slice g5 m5 j5, .slice g6 m6 j6, .slice g7 m7 j7, .slice g8 m8 j8, .slice g9 m9 j9] ∧ ModAt w d (.slice g0 m0 j0) (.slice g1 m1 j1) (.slice g2 m2 j2) (.slice g3 m3 j3) (.slice g4 m4 j4) (.slice g5 m5 j5) (.slice g6 m6 j6) (.slice g7 m7 j7) (.slice g8 m8 j8) (.slice g9 m9 j9) x ∧ (∀ n c, Value.slice g3 m3 j3 = .slice none n c → c = 0) ∧ (∀ n c, Value.slice g4 m4 j4 = .slice none n c → c = 0), fun v w w' ⟨g0, m0, j0, g1, m1, j1, g2, m2, j2, g3, m3, j3, g4, m4, j4, g5, m5, j5, g6, m6, j6, g7, m7, j7, g8, m8, j8, g9, m9, j9, h1, hm, hc3, hc4⟩ hb => ⟨g0, m0, j0, g1, m1, j1, g2, m2, j2, g3, m3, j3, g4, m4, j4, g5, m5, j5, g6, m6, j6, g7, m7, j7, g8, m8, j8, g9, m9, j9, h1, hm.on hb, hc3, hc4⟩⟩
theorem sMod_of {d : Nat} {x : Mod d} {w : World} {u0 u1 u2 u3 u4 u5 u6 u7 u8 u9 : Value} (h : ModAt w d u0 u1 u2 u3 u4 u5 u6 u7 u8 u9 x) (hc3 : ∀ n c, u3 = .slice none n c → c = 0) (hc4 : ∀ n c, u4 = .slice none n c → c = 0) : (sMod x).1 (.agg #[u0, u1, u2, u3, u4, u5, u6, u7, u8, u9]) w := by
  obtain ⟨g0, h0, rfl⟩ := Row.len h.types
  obtain ⟨g1, h1, rfl⟩ := Row.len h.imports
  obtain ⟨g2, h2, rfl⟩ := Row.len h.funcs
  obtain ⟨g3, h3, rfl⟩ := Row.len h.tables
  obtain ⟨g4, h4, rfl⟩ := Row.len h.mems
  obtain ⟨g5, h5, rfl⟩ := Row.len h.globals
  obtain ⟨g6, h6, rfl⟩ := Row.len h.exports
  obtain ⟨g7, h7, rfl⟩ := Row.len h.start
  obtain ⟨g8, h8, rfl⟩ := Row.len h.elems
  obtain ⟨g9, h9, rfl⟩ := Row.len h.datas
  exact ⟨_, _, _, _, _, _, _, _, _, _, _, _, _, _, _, _, _, _, _, _, _, _, _, _, _, _, _, _, _, _, rfl, h, hc3, hc4⟩
def sNewM (B : Nat) : Stab := ⟨fun v w => ∃ g, v = .pointer (some ⟨g, 0, none⟩) ∧ B ≤ g ∧ BlkM w g (.slice none 0 0) (.slice none 0 0) (.slice none 0 0) (.slice none 0 0) (.slice none 0 0) (.slice none 0 0) (.slice none 0 0) (.slice none 0 0) (.slice none 0 0) (.slice none 0 0), fun v w w' ⟨g, h1, h2, h3⟩ hb => ⟨g, h1, h2, h3.on hb⟩⟩
def L3 {d : Nat} (x : Mod d) (B : Nat) (n0 n1 n2 n3 n4 n5 n6 n7 n8 n9 k0 k1 k2 k3 k4 k5 k6 k7 k8 k9 : Nat) (o0 o1 o2 o3 o4 o5 o6 o7 o8 o9 : Option Addr) : Nat → Stab
  | 0 => sEq (.agg #[.slice o0 n0 k0, .slice o1 n1 k1, .slice o2 n2 k2, .slice o3 n3 k3, .slice o4 n4 k4, .slice o5 n5 k5, .slice o6 n6 k6, .slice o7 n7 k7, .slice o8 n8 k8, .slice o9 n9 k9])
  | 1 => sMod x
  | _ => sEq undef
def L4 {d : Nat} (x : Mod d) (n0 n1 n2 n3 n4 n5 n6 n7 n8 n9 k0 k1 k2 k3 k4 k5 k6 k7 k8 k9 m0 m1 m2 m3 m4 m5 m6 m7 m8 m9 j0 j1 j2 j3 j4 j5 j6 j7 j8 j9 : Nat) (o0 o1 o2 o3 o4 o5 o6 o7 o8 o9 g0 g1 g2 g3 g4 g5 g6 g7 g8 g9 : Option Addr) : Nat → Stab
  | 0 => sEq (.agg #[.slice g0 m0 j0, .slice g1 m1 j1, .slice g2 m2 j2, .slice g3 m3 j3, .slice g4 m4 j4, .slice g5 m5 j5, .slice g6 m6 j6, .slice g7 m7 j7, .slice g8 m8 j8, .slice g9 m9 j9])
  | 1 => sEq (.int .i64 (chk x))
  | 2 => sEq (.agg #[.slice o0 n0 k0, .slice o1 n1 k1, .slice o2 n2 k2, .slice o3 n3 k3, .slice o4 n4 k4, .slice o5 n5 k5, .slice o6 n6 k6, .slice o7 n7 k7, .slice o8 n8 k8, .slice o9 n9 k9])
  | 3 => sEq (.int .i64 (chk x))
  | 4 => sEq (.bool true)
  | 5 => sEq (.bool true)
  | 6 => sEq (.agg #[.slice o0 n0 k0, .slice o1 n1 k1, .slice o2 n2 k2, .slice o3 n3 k3, .slice o4 n4 k4, .slice o5 n5 k5, .slice o6 n6 k6, .slice o7 n7 k7, .slice o8 n8 k8, .slice o9 n9 k9])
  | 7 => sMod x
  | 8 => sEq (.int .i64 (cntM d x.funcs : Nat))
  | 9 => sEq (.agg #[.slice o0 n0 k0, .slice o1 n1 k1, .slice o2 n2 k2, .slice o3 n3 k3, .slice o4 n4 k4, .slice o5 n5 k5, .slice o6 n6 k6, .slice o7 n7 k7, .slice o8 n8 k8, .slice o9 n9 k9])
  | 10 => sEq (.int .i64 (cntM d x.funcs : Nat))
  | 11 => sEq (.bool true)
  | 12 => sEq (.bool true)
  | 13 => sEq (.bool true)
  | 14 => sEq (.agg #[.slice g0 m0 j0, .slice g1 m1 j1, .slice g2 m2 j2, .slice g3 m3 j3, .slice g4 m4 j4, .slice g5 m5 j5, .slice g6 m6 j6, .slice g7 m7 j7, .slice g8 m8 j8, .slice g9 m9 j9])
  | 15 => sEq (.agg #[.slice o0 n0 k0, .slice o1 n1 k1, .slice o2 n2 k2, .slice o3 n3 k3, .slice o4 n4 k4, .slice o5 n5 k5, .slice o6 n6 k6, .slice o7 n7 k7, .slice o8 n8 k8, .slice o9 n9 k9])
  | 16 => sEq (.bool true)
  | 17 => sEq (.bool true)
  | 18 => sEq (.bool true)
  | 19 => sEq (.bool true)
  | 20 => sEq (.bool true)
  | 21 => sEq (.bool true)
  | _ => sEq undef
theorem clen2 {x : List Value} (h : x.length = 2) : ∃ x0 x1, x = [x0, x1] := by
  match x, h with
  | [x0, x1], _ => exact ⟨x0, x1, rfl⟩
theorem clen21 {x : List Value} (h : x.length = 21) : ∃ x0 x1 x2 x3 x4 x5 x6 x7 x8 x9 x10 x11 x12 x13 x14 x15 x16 x17 x18 x19 x20, x = [x0, x1, x2, x3, x4, x5, x6, x7, x8, x9, x10, x11, x12, x13, x14, x15, x16, x17, x18, x19, x20] := by
  match x, h with
  | [x0, x1, x2, x3, x4, x5, x6, x7, x8, x9, x10, x11, x12, x13, x14, x15, x16, x17, x18, x19, x20], _ => exact ⟨x0, x1, x2, x3, x4, x5, x6, x7, x8, x9, x10, x11, x12, x13, x14, x15, x16, x17, x18, x19, x20, rfl⟩
structure SaysOk {d : Nat} (w : World) (x : Mod d) : Prop where
  small : Small x
  texts : Texts x
end Rep
set_option maxRecDepth 100000 in
set_option maxHeartbeats 16000000 in
theorem checksC {I : World → Prop} (C : WastC I) (d : Nat) (v0 v1 v2 v3 v4 v5 v6 v7 v8 v9 : Value) (m : Mod d) (w : World) (hI : I w) (hM : ModAt w d v0 v1 v2 v3 v4 v5 v6 v7 v8 v9 m) (hsz : ∀ x ∈ m.datas, x.bytes.size ≤ 9223372036854775807) (hX : Texts m) :
    Calls Tryd.prog 4 #[.agg #[v0, v1, v2, v3, v4, v5, v6, v7, v8, v9]] w fun e w' => e = .returned (.bool true) ∧ Below w.heap.size w w' := by
  obtain ⟨o0, k0, rfl⟩ := Row.len hM.types
  obtain ⟨o1, k1, rfl⟩ := Row.len hM.imports
  obtain ⟨o2, k2, rfl⟩ := Row.len hM.funcs
  obtain ⟨o3, k3, rfl⟩ := Row.len hM.tables
  obtain ⟨o4, k4, rfl⟩ := Row.len hM.mems
  obtain ⟨o5, k5, rfl⟩ := Row.len hM.globals
  obtain ⟨o6, k6, rfl⟩ := Row.len hM.exports
  obtain ⟨o7, k7, rfl⟩ := Row.len hM.start
  obtain ⟨o8, k8, rfl⟩ := Row.len hM.elems
  obtain ⟨o9, k9, rfl⟩ := Row.len hM.datas
  have HLG := fun (w2 : World) (hb : Below w.heap.size w w2) => hideR (pLarge d _ _ _ _ _ _ _ _ _ _ m w2 (hM.on hb) hsz)
  have HM := hideR hM
  have HX := hideR hX
  have HI := hideR hI
  clear hM hX hI hsz
  generalize m.types.length = n0 at *
  generalize m.imports.length = n1 at *
  generalize m.funcs.length = n2 at *
  generalize m.tables.length = n3 at *
  generalize m.mems.length = n4 at *
  generalize m.globals.length = n5 at *
  generalize m.exports.length = n6 at *
  generalize m.start.length = n7 at *
  generalize m.elems.length = n8 at *
  generalize m.datas.length = n9 at *
  go_enter Tryd.func4, Tryd.ntmps4
  go_upto_region 1 with fail
  obtain ⟨u1, hu1⟩ : ∃ u1, u1 = w.alloc (.cells #[.slice o0 n0 k0, .slice o1 n1 k1, .slice o2 n2 k2, .slice o3 n3 k3, .slice o4 n4 k4, .slice o5 n5 k5, .slice o6 n6 k6, .slice o7 n7 k7, .slice o8 n8 k8, .slice o9 n9 k9] 36) := ⟨_, rfl⟩
  have HB1 : Hid (BlkM u1 w.heap.size (.slice o0 n0 k0) (.slice o1 n1 k1) (.slice o2 n2 k2) (.slice o3 n3 k3) (.slice o4 n4 k4) (.slice o5 n5 k5) (.slice o6 n6 k6) (.slice o7 n7 k7) (.slice o8 n8 k8) (.slice o9 n9 k9)) := hideR (by rw [hu1]; exact BlkM.new rfl)
  have HU : Hid (Below w.heap.size w u1) := hideR (by rw [hu1]; exact new_on' _ _)
  rw [← hu1]
  clear hu1
  have HP : ∀ w2, Below u1.heap.size u1 w2 → Hid (BlkM w2 w.heap.size (.slice o0 n0 k0) (.slice o1 n1 k1) (.slice o2 n2 k2) (.slice o3 n3 k3) (.slice o4 n4 k4) (.slice o5 n5 k5) (.slice o6 n6 k6) (.slice o7 n7 k7) (.slice o8 n8 k8) (.slice o9 n9 k9)) := fun w2 hb => hideR (HB1.out.on hb)
  have HL1 := HLG u1 HU.out
  clear HLG
  generalize hp1 : w.heap.size = p1 at HP HB1 ⊢
  have c0 := HB1.out.cell 0 _ rfl
  have c1 := HB1.out.cell 1 _ rfl
  have c2 := HB1.out.cell 2 _ rfl
  have c3 := HB1.out.cell 3 _ rfl
  have c4 := HB1.out.cell 4 _ rfl
  have c5 := HB1.out.cell 5 _ rfl
  have c6 := HB1.out.cell 6 _ rfl
  have c7 := HB1.out.cell 7 _ rfl
  have c8 := HB1.out.cell 8 _ rfl
  have c9 := HB1.out.cell 9 _ rfl
  go_wp2_with fail
  refine HL1.out.mono ?_
  rintro e u2 ⟨hb2, hor⟩
  have HB2 := hideR hb2
  have HI2 := hideR (C.keep (below_go' HU.out hb2) HI.out)
  rcases hor with rfl | ⟨rfl, x, hx, hs, hi1, hi2⟩
  · clear c0 c1 c2 c3 c4 c5 c6 c7 c8 c9 hb2
    go_wp2_with fail
    refine (pWakes C _ HI2.out).mono ?_
    rintro e u3 ⟨rfl, hb3⟩
    have HB3 := hideR (below_go' (below_go' HU.out HB2.out) hb3)
    clear hb3
    go_wp2
    go_ret
    exact ⟨rfl, hp1 ▸ HB3.out⟩
  · have HMX := hideR hx
    have HSM := hideR hs
    have HTX : Hid (Texts x) := hideR ⟨by rw [hi1]; exact HX.out.imports, by rw [hi2]; exact HX.out.exports⟩
    clear hx hs hi1 hi2 hb2 HL1 HM HX c0 c1 c2 c3 c4 c5 c6 c7 c8 c9
    have HSZ : Hid (∀ y ∈ x.datas, y.bytes.size ≤ 300000) := hideR (fun y hy => (HSM.out.datas y hy).2)
    go_upto_region 3 with fail
    refine Reg.wp_region_seq 2 (fun i => 7 + i) (fun i => (L3 x u2.heap.size n0 n1 n2 n3 n4 n5 n6 n7 n8 n9 k0 k1 k2 k3 k4 k5 k6 k7 k8 k9 o0 o1 o2 o3 o4 o5 o6 o7 o8 o9 i).1) ?hn (fun i j h1 h2 h => by have h' : 7 + i = 7 + j := h; omega) (Reg.dst_ok (size := 30) (by kernel_rfl)) (fun i v w w' _ h hb => (L3 x u2.heap.size n0 n1 n2 n3 n4 n5 n6 n7 n8 n9 k0 k1 k2 k3 k4 k5 k6 k7 k8 k9 o0 o1 o2 o3 o4 o5 o6 o7 o8 o9 i).2 v w w' h hb) ?hstep ?htail
    case hn => simp
    case hstep =>
      intro i o a w2 hi ho hF hB hd
      have f1 : a.tmps[1]?.getD undef = .pointer (some ⟨p1, 0, none⟩) := Reg.ev_get (hF.eval 1 (fun i hi => by show 7 + i ≠ 1; omega))
      have c0 := (HP w2 (HB2.out.trans (hB.mono HB2.out.size))).out.cell 0 _ rfl
      have c1 := (HP w2 (HB2.out.trans (hB.mono HB2.out.size))).out.cell 1 _ rfl
      have c2 := (HP w2 (HB2.out.trans (hB.mono HB2.out.size))).out.cell 2 _ rfl
      have c3 := (HP w2 (HB2.out.trans (hB.mono HB2.out.size))).out.cell 3 _ rfl
      have c4 := (HP w2 (HB2.out.trans (hB.mono HB2.out.size))).out.cell 4 _ rfl
      have c5 := (HP w2 (HB2.out.trans (hB.mono HB2.out.size))).out.cell 5 _ rfl
      have c6 := (HP w2 (HB2.out.trans (hB.mono HB2.out.size))).out.cell 6 _ rfl
      have c7 := (HP w2 (HB2.out.trans (hB.mono HB2.out.size))).out.cell 7 _ rfl
      have c8 := (HP w2 (HB2.out.trans (hB.mono HB2.out.size))).out.cell 8 _ rfl
      have c9 := (HP w2 (HB2.out.trans (hB.mono HB2.out.size))).out.cell 9 _ rfl
      have hcase : i = 0 ∨ i = 1 := by omega
      clear hi
      rcases hcase with rfl | rfl
      · simp only [List.getElem?_toArray, List.getElem?_cons_zero, Option.some.injEq] at ho
        subst ho
        refine Reg.step_k fun K hK => ?_
        go_simp
        exact hK _ _ ⟨_, rfl, Below.refl _ _, rfl⟩
      · simp only [List.getElem?_toArray, List.getElem?_cons_succ, List.getElem?_cons_zero, Option.some.injEq] at ho
        subst ho
        have q0 : a.tmps[7]?.getD undef = .agg #[.slice o0 n0 k0, .slice o1 n1 k1, .slice o2 n2 k2, .slice o3 n3 k3, .slice o4 n4 k4, .slice o5 n5 k5, .slice o6 n6 k6, .slice o7 n7 k7, .slice o8 n8 k8, .slice o9 n9 k9] := Reg.ev_get (hd 0 (by decide))
        refine Reg.step_k fun K hK => ?_
        have HKK := hideR hK
        clear hK
        go_simp
        refine (refCopy 81 _ _ _ _ _ _ _ _ _ _ x w2 (HMX.out.on hB) HSM.out).mono ?_
        rintro e w3 ⟨u0, u1, u2, u3, u4, u5, u6, u7, u8, u9, rfl, hm3, hb3, hc3, hc4⟩
        exact HKK.out _ _ ⟨_, rfl, hb3, sMod_of hm3 hc3 hc4⟩
    case htail =>
      intro a w3 hF hB hG
      obtain ⟨g0, m0, j0, g1, m1, j1, g2, m2, j2, g3, m3, j3, g4, m4, j4, g5, m5, j5, g6, m6, j6, g7, m7, j7, g8, m8, j8, g9, m9, j9, h8, hm3, hc3, hc4⟩ := (show (sMod x).1 (a.eval (.tmp 8)) w3 from hG 1 (by omega))
      have has : a.tmps.size = 30 := hF.size
      have hZ : BlkM (w3.alloc (.cells #[.slice none 0 0, .slice none 0 0, .slice none 0 0, .slice none 0 0, .slice none 0 0, .slice none 0 0, .slice none 0 0, .slice none 0 0, .slice none 0 0, .slice none 0 0] 36)) w3.heap.size (.slice none 0 0) (.slice none 0 0) (.slice none 0 0) (.slice none 0 0) (.slice none 0 0) (.slice none 0 0) (.slice none 0 0) (.slice none 0 0) (.slice none 0 0) (.slice none 0 0) := BlkM.new rfl
      have hbx : Below w3.heap.size w3 (setAll (w3.alloc (.cells #[.slice none 0 0, .slice none 0 0, .slice none 0 0, .slice none 0 0, .slice none 0 0, .slice none 0 0, .slice none 0 0, .slice none 0 0, .slice none 0 0, .slice none 0 0] 36)) w3.heap.size (.slice g0 m0 j0) (.slice g1 m1 j1) (.slice g2 m2 j2) (.slice g3 m3 j3) (.slice g4 m4 j4) (.slice g5 m5 j5) (.slice g6 m6 j6) (.slice g7 m7 j7) (.slice g8 m8 j8) (.slice g9 m9 j9)) := setAll_below (new_on' _ _) (Nat.le_refl _) (.slice g0 m0 j0) (.slice g1 m1 j1) (.slice g2 m2 j2) (.slice g3 m3 j3) (.slice g4 m4 j4) (.slice g5 m5 j5) (.slice g6 m6 j6) (.slice g7 m7 j7) (.slice g8 m8 j8) (.slice g9 m9 j9)
      have HBG := hideR (hZ.all (.slice g0 m0 j0) (.slice g1 m1 j1) (.slice g2 m2 j2) (.slice g3 m3 j3) (.slice g4 m4 j4) (.slice g5 m5 j5) (.slice g6 m6 j6) (.slice g7 m7 j7) (.slice g8 m8 j8) (.slice g9 m9 j9))
      have HMI := hideR (hm3.on hbx)
      have HBX := hideR (below_go' hB hbx)
      have HC3 := hideR hc3
      have HC4 := hideR hc4
      have p3 := Reg.put_eval_same (a := a) (k := 3) (.pointer (some ⟨w3.heap.size, 0, none⟩)) (by rw [has]; decide)
      have p8 := (Reg.put_eval_ne (a := a) (k := 3) (j := 8) (.pointer (some ⟨w3.heap.size, 0, none⟩)) (by decide)).trans h8
      obtain ⟨xl, hxl, ha, hev⟩ := hF.lit (by simp)
      obtain ⟨x0, x1, rfl⟩ := clen2 hxl
      have HA := hideR ha
      clear hm3 hbx hc3 hc4 h8 hG hev hxl has ha
      simp only [List.drop_succ_cons, List.drop_zero]
      refine wpList_plain rfl fun K hK2 => ?_
      go_simp
      refine hK2 _ _ ?_
      refine wpList_plain rfl fun K2 hK3 => ?_
      refine store10 (a := a.put (some 3) (.pointer (some ⟨w3.heap.size, 0, none⟩))) (Reg.ev_get p3) (Reg.ev_get p8) hZ ?_
      refine hK3 _ _ (wpList_nil ?_)
      clear hK2 hK3 hZ p3 p8 hF
      generalize setAll (w3.alloc (.cells #[.slice none 0 0, .slice none 0 0, .slice none 0 0, .slice none 0 0, .slice none 0 0, .slice none 0 0, .slice none 0 0, .slice none 0 0, .slice none 0 0, .slice none 0 0] 36)) w3.heap.size (.slice g0 m0 j0) (.slice g1 m1 j1) (.slice g2 m2 j2) (.slice g3 m3 j3) (.slice g4 m4 j4) (.slice g5 m5 j5) (.slice g6 m6 j6) (.slice g7 m7 j7) (.slice g8 m8 j8) (.slice g9 m9 j9) = w4 at *
      generalize w3.heap.size = g at *
      have ha := HA.out
      clear HA
      subst ha
      clear hB
      simp only [Act.put, List.setIfInBounds_toArray, List.set_cons_succ, List.set_cons_zero, List.take_succ_cons, List.take_zero, List.drop_succ_cons, List.drop_zero, List.cons_append, List.nil_append]
      have HM4 := hideR (HMX.out.on HBX.out)
      have HI4 := hideR (C.keep HBX.out HI2.out)
      have HP4 := HP w4 (HB2.out.trans (HBX.out.mono HB2.out.size))
      have HOK : Hid (ModOk (.slice g3 m3 j3) (.slice g4 m4 j4) x) := hideR ⟨by decide, fun y hy => by have := HSZ.out y hy; omega, HTX.out, HC3.out, HC4.out⟩
      have HCT : Hid (cntM 81 x.funcs = min (cntF 81 x.funcs 0) 65537) := hideR (cntM_eq 81 x.funcs)
      have HSR : Hid (samM x x = true) := hideR (samM_refl x)
      clear HMX HP HB1
      go_upto_region 4 with fail
      refine Reg.wp_region_all 22 (fun i => if i < 21 then 9 + i else 2) (fun i => (L4 x n0 n1 n2 n3 n4 n5 n6 n7 n8 n9 k0 k1 k2 k3 k4 k5 k6 k7 k8 k9 m0 m1 m2 m3 m4 m5 m6 m7 m8 m9 j0 j1 j2 j3 j4 j5 j6 j7 j8 j9 o0 o1 o2 o3 o4 o5 o6 o7 o8 o9 g0 g1 g2 g3 g4 g5 g6 g7 g8 g9 i).1) (by kernel_rfl) (by kernel_rfl) (fun i j h1 h2 h => by have h' : (if i < 21 then 9 + i else 2) = (if j < 21 then 9 + j else 2) := h; split at h' <;> split at h' <;> omega) (Reg.dst_okG (size := 30) (by kernel_rfl)) (fun i v w w' _ h hb => (L4 x n0 n1 n2 n3 n4 n5 n6 n7 n8 n9 k0 k1 k2 k3 k4 k5 k6 k7 k8 k9 m0 m1 m2 m3 m4 m5 m6 m7 m8 m9 j0 j1 j2 j3 j4 j5 j6 j7 j8 j9 o0 o1 o2 o3 o4 o5 o6 o7 o8 o9 g0 g1 g2 g3 g4 g5 g6 g7 g8 g9 i).2 v w w' h hb) ?hstep ?hend
      case hstep =>
        intro i o a w2 hi ho hF hB hd
        have f1 : a.tmps[1]?.getD undef = .pointer (some ⟨p1, 0, none⟩) := Reg.ev_get (hF.eval 1 (fun i hi => by show (if i < 21 then 9 + i else 2) ≠ 1; split <;> omega))
        have f3 : a.tmps[3]?.getD undef = .pointer (some ⟨g, 0, none⟩) := Reg.ev_get (hF.eval 3 (fun i hi => by show (if i < 21 then 9 + i else 2) ≠ 3; split <;> omega))
        have c0 := (HP4.out.on hB).cell 0 _ rfl
        have c1 := (HP4.out.on hB).cell 1 _ rfl
        have c2 := (HP4.out.on hB).cell 2 _ rfl
        have c3 := (HP4.out.on hB).cell 3 _ rfl
        have c4 := (HP4.out.on hB).cell 4 _ rfl
        have c5 := (HP4.out.on hB).cell 5 _ rfl
        have c6 := (HP4.out.on hB).cell 6 _ rfl
        have c7 := (HP4.out.on hB).cell 7 _ rfl
        have c8 := (HP4.out.on hB).cell 8 _ rfl
        have c9 := (HP4.out.on hB).cell 9 _ rfl
        have d0 := (HBG.out.on hB).cell 0 _ rfl
        have d1 := (HBG.out.on hB).cell 1 _ rfl
        have d2 := (HBG.out.on hB).cell 2 _ rfl
        have d3 := (HBG.out.on hB).cell 3 _ rfl
        have d4 := (HBG.out.on hB).cell 4 _ rfl
        have d5 := (HBG.out.on hB).cell 5 _ rfl
        have d6 := (HBG.out.on hB).cell 6 _ rfl
        have d7 := (HBG.out.on hB).cell 7 _ rfl
        have d8 := (HBG.out.on hB).cell 8 _ rfl
        have d9 := (HBG.out.on hB).cell 9 _ rfl
        have hcase : i = 0 ∨ i = 1 ∨ i = 2 ∨ i = 3 ∨ i = 4 ∨ i = 5 ∨ i = 6 ∨ i = 7 ∨ i = 8 ∨ i = 9 ∨ i = 10 ∨ i = 11 ∨ i = 12 ∨ i = 13 ∨ i = 14 ∨ i = 15 ∨ i = 16 ∨ i = 17 ∨ i = 18 ∨ i = 19 ∨ i = 20 ∨ i = 21 := by omega
        clear hi
        rcases hcase with rfl | rfl | rfl | rfl | rfl | rfl | rfl | rfl | rfl | rfl | rfl | rfl | rfl | rfl | rfl | rfl | rfl | rfl | rfl | rfl | rfl | rfl
        · simp only [List.getElem?_toArray, List.getElem?_cons_zero, Option.some.injEq] at ho
          subst ho
          refine Reg.Does.go rfl (Reg.step_k fun K hK => ?_)
          go_simp
          exact hK _ _ ⟨_, rfl, Below.refl _ _, rfl⟩
        · simp only [List.getElem?_toArray, List.getElem?_cons_succ, List.getElem?_cons_zero, Option.some.injEq] at ho
          subst ho
          refine Reg.Does.go rfl (Reg.step_k fun K hK => ?_)
          have q0 : a.tmps[9]?.getD undef = .agg #[.slice g0 m0 j0, .slice g1 m1 j1, .slice g2 m2 j2, .slice g3 m3 j3, .slice g4 m4 j4, .slice g5 m5 j5, .slice g6 m6 j6, .slice g7 m7 j7, .slice g8 m8 j8, .slice g9 m9 j9] := Reg.ev_get (hd 0 (by decide))
          have HKK := hideR hK
          clear hK
          go_simp
          refine (pCheckC C 81 _ _ _ _ _ _ _ _ _ _ x w2 (C.keep hB HI4.out) (HMI.out.on hB) HOK.out).mono ?_
          rintro e w3 ⟨rfl, hb3⟩
          exact HKK.out _ _ ⟨_, rfl, hb3, rfl⟩
        · simp only [List.getElem?_toArray, List.getElem?_cons_succ, List.getElem?_cons_zero, Option.some.injEq] at ho
          subst ho
          refine Reg.Does.go rfl (Reg.step_k fun K hK => ?_)
          go_simp
          exact hK _ _ ⟨_, rfl, Below.refl _ _, rfl⟩
        · simp only [List.getElem?_toArray, List.getElem?_cons_succ, List.getElem?_cons_zero, Option.some.injEq] at ho
          subst ho
          refine Reg.Does.go rfl (Reg.step_k fun K hK => ?_)
          have q0 : a.tmps[11]?.getD undef = .agg #[.slice o0 n0 k0, .slice o1 n1 k1, .slice o2 n2 k2, .slice o3 n3 k3, .slice o4 n4 k4, .slice o5 n5 k5, .slice o6 n6 k6, .slice o7 n7 k7, .slice o8 n8 k8, .slice o9 n9 k9] := Reg.ev_get (hd 2 (by decide))
          have HKK := hideR hK
          clear hK
          go_simp
          refine (refCheck 81 _ _ _ _ _ _ _ _ _ _ x w2 (HM4.out.on hB) HTX.out (fun y hy => by have := HSZ.out y hy; omega)).mono ?_
          rintro e w3 ⟨rfl, hb3⟩
          exact HKK.out _ _ ⟨_, rfl, hb3, rfl⟩
        · simp only [List.getElem?_toArray, List.getElem?_cons_succ, List.getElem?_cons_zero, Option.some.injEq] at ho
          subst ho
          refine Reg.Does.go rfl (Reg.step_k fun K hK => ?_)
          have q0 : a.tmps[10]?.getD undef = .int .i64 (chk x) := Reg.ev_get (hd 1 (by decide))
          have q1 : a.tmps[12]?.getD undef = .int .i64 (chk x) := Reg.ev_get (hd 3 (by decide))
          go_simp
          exact hK _ _ ⟨_, rfl, Below.refl _ _, rfl⟩
        · simp only [List.getElem?_toArray, List.getElem?_cons_succ, List.getElem?_cons_zero, Option.some.injEq] at ho
          subst ho
          refine Reg.Does.go rfl (Reg.step_k fun K hK => ?_)
          have q0 : a.tmps[13]?.getD undef = .bool true := Reg.ev_get (hd 4 (by decide))
          go_simp
          exact hK _ _ ⟨_, rfl, Below.refl _ _, rfl⟩
        · simp only [List.getElem?_toArray, List.getElem?_cons_succ, List.getElem?_cons_zero, Option.some.injEq] at ho
          subst ho
          have qg : a.eval (.tmp 14) = .bool true := hd 5 (by decide)
          refine Reg.Does.wanted rfl rfl rfl qg (Reg.step_k fun K hK => ?_)
          clear qg
          go_simp
          exact hK _ _ ⟨_, rfl, Below.refl _ _, rfl⟩
        · simp only [List.getElem?_toArray, List.getElem?_cons_succ, List.getElem?_cons_zero, Option.some.injEq] at ho
          subst ho
          have qg : a.eval (.tmp 14) = .bool true := hd 5 (by decide)
          refine Reg.Does.wanted rfl rfl rfl qg (Reg.step_k fun K hK => ?_)
          clear qg
          have q0 : a.tmps[15]?.getD undef = .agg #[.slice o0 n0 k0, .slice o1 n1 k1, .slice o2 n2 k2, .slice o3 n3 k3, .slice o4 n4 k4, .slice o5 n5 k5, .slice o6 n6 k6, .slice o7 n7 k7, .slice o8 n8 k8, .slice o9 n9 k9] := Reg.ev_get (hd 6 (by decide))
          have HKK := hideR hK
          clear hK
          go_simp
          refine (refCopy 81 _ _ _ _ _ _ _ _ _ _ x w2 (HM4.out.on hB) HSM.out).mono ?_
          rintro e w3 ⟨u0, u1, u2, u3, u4, u5, u6, u7, u8, u9, rfl, hm3, hb3, hc3, hc4⟩
          exact HKK.out _ _ ⟨_, rfl, hb3, sMod_of hm3 hc3 hc4⟩
        · simp only [List.getElem?_toArray, List.getElem?_cons_succ, List.getElem?_cons_zero, Option.some.injEq] at ho
          subst ho
          have qg : a.eval (.tmp 14) = .bool true := hd 5 (by decide)
          refine Reg.Does.wanted rfl rfl rfl qg (Reg.step_k fun K hK => ?_)
          clear qg
          obtain ⟨ga0, ma0, ha0, ga1, ma1, ha1, ga2, ma2, ha2, ga3, ma3, ha3, ga4, ma4, ha4, ga5, ma5, ha5, ga6, ma6, ha6, ga7, ma7, ha7, ga8, ma8, ha8, ga9, ma9, ha9, hv8, hm8, hc3, hc4⟩ := (show (sMod x).1 (a.eval (.tmp 16)) w2 from hd 7 (by decide))
          have q0 := Reg.ev_get hv8
          have HM8 := hideR hm8
          clear hv8 hm8 hc3 hc4
          have HKK := hideR hK
          clear hK
          go_simp
          refine (pCount 81 (by decide) _ _ _ _ _ _ _ _ _ _ x.funcs w2 HM8.out.funcs HM8.out.ten).mono ?_
          rintro e w3 ⟨rfl, hb3⟩
          exact HKK.out _ _ ⟨_, rfl, hb3, rfl⟩
        · simp only [List.getElem?_toArray, List.getElem?_cons_succ, List.getElem?_cons_zero, Option.some.injEq] at ho
          subst ho
          have qg : a.eval (.tmp 14) = .bool true := hd 5 (by decide)
          refine Reg.Does.wanted rfl rfl rfl qg (Reg.step_k fun K hK => ?_)
          clear qg
          go_simp
          exact hK _ _ ⟨_, rfl, Below.refl _ _, rfl⟩
        · simp only [List.getElem?_toArray, List.getElem?_cons_succ, List.getElem?_cons_zero, Option.some.injEq] at ho
          subst ho
          have qg : a.eval (.tmp 14) = .bool true := hd 5 (by decide)
          refine Reg.Does.wanted rfl rfl rfl qg (Reg.step_k fun K hK => ?_)
          clear qg
          have q0 : a.tmps[18]?.getD undef = .agg #[.slice o0 n0 k0, .slice o1 n1 k1, .slice o2 n2 k2, .slice o3 n3 k3, .slice o4 n4 k4, .slice o5 n5 k5, .slice o6 n6 k6, .slice o7 n7 k7, .slice o8 n8 k8, .slice o9 n9 k9] := Reg.ev_get (hd 9 (by decide))
          have HKK := hideR hK
          clear hK
          go_simp
          refine (refCountM 81 _ _ _ _ _ _ _ _ _ _ x.funcs w2 (HM4.out.on hB).funcs (HM4.out.on hB).ten).mono ?_
          rintro e w3 ⟨rfl, hb3⟩
          exact HKK.out _ _ ⟨_, rfl, hb3, by rw [← HCT.out]; rfl⟩
        · simp only [List.getElem?_toArray, List.getElem?_cons_succ, List.getElem?_cons_zero, Option.some.injEq] at ho
          subst ho
          have qg : a.eval (.tmp 14) = .bool true := hd 5 (by decide)
          refine Reg.Does.wanted rfl rfl rfl qg (Reg.step_k fun K hK => ?_)
          clear qg
          have q0 : a.tmps[17]?.getD undef = .int .i64 (cntM 81 x.funcs : Nat) := Reg.ev_get (hd 8 (by decide))
          have q1 : a.tmps[19]?.getD undef = .int .i64 (cntM 81 x.funcs : Nat) := Reg.ev_get (hd 10 (by decide))
          go_simp
          exact hK _ _ ⟨_, rfl, Below.refl _ _, rfl⟩
        · simp only [List.getElem?_toArray, List.getElem?_cons_succ, List.getElem?_cons_zero, Option.some.injEq] at ho
          subst ho
          refine Reg.Does.go rfl (Reg.step_k fun K hK => ?_)
          have q0 : a.tmps[14]?.getD undef = .bool true := Reg.ev_get (hd 5 (by decide))
          have q1 : a.tmps[20]?.getD undef = .bool true := Reg.ev_get (hd 11 (by decide))
          go_simp
          exact hK _ _ ⟨_, rfl, Below.refl _ _, rfl⟩
        · simp only [List.getElem?_toArray, List.getElem?_cons_succ, List.getElem?_cons_zero, Option.some.injEq] at ho
          subst ho
          refine Reg.Does.go rfl (Reg.step_k fun K hK => ?_)
          have q0 : a.tmps[21]?.getD undef = .bool true := Reg.ev_get (hd 12 (by decide))
          go_simp
          exact hK _ _ ⟨_, rfl, Below.refl _ _, rfl⟩
        · simp only [List.getElem?_toArray, List.getElem?_cons_succ, List.getElem?_cons_zero, Option.some.injEq] at ho
          subst ho
          have qg : a.eval (.tmp 22) = .bool true := hd 13 (by decide)
          refine Reg.Does.wanted rfl rfl rfl qg (Reg.step_k fun K hK => ?_)
          clear qg
          go_simp
          exact hK _ _ ⟨_, rfl, Below.refl _ _, rfl⟩
        · simp only [List.getElem?_toArray, List.getElem?_cons_succ, List.getElem?_cons_zero, Option.some.injEq] at ho
          subst ho
          have qg : a.eval (.tmp 22) = .bool true := hd 13 (by decide)
          refine Reg.Does.wanted rfl rfl rfl qg (Reg.step_k fun K hK => ?_)
          clear qg
          go_simp
          exact hK _ _ ⟨_, rfl, Below.refl _ _, rfl⟩
        · simp only [List.getElem?_toArray, List.getElem?_cons_succ, List.getElem?_cons_zero, Option.some.injEq] at ho
          subst ho
          have qg : a.eval (.tmp 22) = .bool true := hd 13 (by decide)
          refine Reg.Does.wanted rfl rfl rfl qg (Reg.step_k fun K hK => ?_)
          clear qg
          have q0 : a.tmps[23]?.getD undef = .agg #[.slice g0 m0 j0, .slice g1 m1 j1, .slice g2 m2 j2, .slice g3 m3 j3, .slice g4 m4 j4, .slice g5 m5 j5, .slice g6 m6 j6, .slice g7 m7 j7, .slice g8 m8 j8, .slice g9 m9 j9] := Reg.ev_get (hd 14 (by decide))
          have q1 : a.tmps[24]?.getD undef = .agg #[.slice o0 n0 k0, .slice o1 n1 k1, .slice o2 n2 k2, .slice o3 n3 k3, .slice o4 n4 k4, .slice o5 n5 k5, .slice o6 n6 k6, .slice o7 n7 k7, .slice o8 n8 k8, .slice o9 n9 k9] := Reg.ev_get (hd 15 (by decide))
          have HKK := hideR hK
          clear hK
          go_simp
          refine (refSame 81 _ _ _ _ _ _ _ _ _ _ _ _ _ _ _ _ _ _ _ _ x x w2 (HMI.out.on hB) (HM4.out.on hB)).mono ?_
          rintro e w3 ⟨rfl, hb3⟩
          exact HKK.out _ _ ⟨_, rfl, hb3, by rw [HSR.out]; rfl⟩
        · simp only [List.getElem?_toArray, List.getElem?_cons_succ, List.getElem?_cons_zero, Option.some.injEq] at ho
          subst ho
          refine Reg.Does.go rfl (Reg.step_k fun K hK => ?_)
          have q0 : a.tmps[22]?.getD undef = .bool true := Reg.ev_get (hd 13 (by decide))
          have q1 : a.tmps[25]?.getD undef = .bool true := Reg.ev_get (hd 16 (by decide))
          go_simp
          exact hK _ _ ⟨_, rfl, Below.refl _ _, rfl⟩
        · simp only [List.getElem?_toArray, List.getElem?_cons_succ, List.getElem?_cons_zero, Option.some.injEq] at ho
          subst ho
          refine Reg.Does.go rfl (Reg.step_k fun K hK => ?_)
          have q0 : a.tmps[26]?.getD undef = .bool true := Reg.ev_get (hd 17 (by decide))
          go_simp
          exact hK _ _ ⟨_, rfl, Below.refl _ _, rfl⟩
        · simp only [List.getElem?_toArray, List.getElem?_cons_succ, List.getElem?_cons_zero, Option.some.injEq] at ho
          subst ho
          have qg : a.eval (.tmp 27) = .bool true := hd 18 (by decide)
          refine Reg.Does.wanted rfl rfl rfl qg (Reg.step_k fun K hK => ?_)
          clear qg
          have HKK := hideR hK
          clear hK
          go_simp
          refine (pWakes C w2 (C.keep hB HI4.out)).mono ?_
          rintro e w3 ⟨rfl, hb3⟩
          exact HKK.out _ _ ⟨_, rfl, hb3, rfl⟩
        · simp only [List.getElem?_toArray, List.getElem?_cons_succ, List.getElem?_cons_zero, Option.some.injEq] at ho
          subst ho
          refine Reg.Does.go rfl (Reg.step_k fun K hK => ?_)
          have q0 : a.tmps[27]?.getD undef = .bool true := Reg.ev_get (hd 18 (by decide))
          have q1 : a.tmps[28]?.getD undef = .bool true := Reg.ev_get (hd 19 (by decide))
          go_simp
          exact hK _ _ ⟨_, rfl, Below.refl _ _, rfl⟩
        · simp only [List.getElem?_toArray, List.getElem?_cons_succ, List.getElem?_cons_zero, Option.some.injEq] at ho
          subst ho
          refine Reg.Does.go rfl (Reg.step_k fun K hK => ?_)
          have q0 : a.tmps[29]?.getD undef = .bool true := Reg.ev_get (hd 20 (by decide))
          go_simp
          exact hK _ _ ⟨_, rfl, Below.refl _ _, rfl⟩
      case hend =>
        intro a w5 hF hB hG
        have gl : a.eval (.tmp 2) = .bool true := hG 21 (by omega)
        have HBE := hideR (below_go' (below_go' (below_go' HU.out HB2.out) HBX.out) hB)
        obtain ⟨y, xl, hxl, rfl, hy, hev⟩ := hF.lit2 (n := 21) (lo := 9) (s := 2) (by decide) (by simp)
        obtain ⟨x0, x1, x2, x3, x4, x5, x6, x7, x8, x9, x10, x11, x12, x13, x14, x15, x16, x17, x18, x19, x20, rfl⟩ := clen21 hxl
        obtain rfl : y = .bool true := hy.symm.trans gl
        clear hev hy hxl hF hG hB
        simp only [List.take_succ_cons, List.take_zero, List.drop_succ_cons, List.drop_zero, List.cons_append, List.nil_append]
        go_wp2
        go_ret
        exact ⟨rfl, hp1 ▸ HBE.out⟩
end Go.Proofs.YtmedpblpcfobdaaDoor
