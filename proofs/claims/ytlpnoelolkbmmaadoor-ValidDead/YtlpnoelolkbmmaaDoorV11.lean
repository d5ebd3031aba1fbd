/- slices.Concat of two empty lists; typeBody. -/
import Derived.Test.YtlpnoelolkbmmaaDoorV10
namespace Go.Proofs.YtlpnoelolkbmmaaDoor
open Go.RowKit Rep Val
set_option linter.unusedVariables false
theorem vGrow0 (w : World) : Calls Tryd.prog 38 #[.slice none 0 0, .int .i64 0] w fun e w' => e = .returned (.slice none 0 0) ∧ w' = w := by
  go_enter Tryd.func38, Tryd.ntmps38
  go_wp2
  go_ret
  exact ⟨rfl, rfl⟩
set_option maxRecDepth 100000 in
set_option maxHeartbeats 4000000 in
theorem vConcat0 (b k1 k2 : Nat) (o1 o2 : Option Addr) (w : World) (h0 : w.cell? ⟨b, 0, none⟩ = some (.slice o1 0 k1)) (h1 : w.cell? ⟨b, 1, none⟩ = some (.slice o2 0 k2)) :
    Calls Tryd.prog 21 #[.slice (some ⟨b, 0, none⟩) 2 2] w fun e w' => (∃ o k, e = .returned (.slice o 0 k)) ∧ Below w.heap.size w w' := by
  obtain ⟨i0, hi0, hz0, hz1, hz2⟩ := info_parts vIntInfo
  go_enter Tryd.func21, Tryd.ntmps21
  go_wp2_with fail
  go_loopw [3, 11] (fun s t wr => ∃ k : Nat, k ≤ 2 ∧ t = .int .i64 k ∧ s = .int .i64 0 ∧ wr = w) (fun _ t _ => 2 - (RowKit.intOf t).toNat)
  case atStart => exact ⟨0, by omega, rfl, rfl, rfl⟩
  case round =>
    obtain ⟨k, hk, rfl, rfl, hwr⟩ := hrel
    obtain rfl := hwr.symm
    have hc : k = 0 ∨ k = 1 ∨ k = 2 := by omega
    rcases hc with rfl | rfl | rfl
    · go_wp2
      go_roundw
      case rel => exact ⟨1, by omega, rfl, rfl, by first | rfl | trivial⟩
      case measure => simp [RowKit.intOf]
    · go_wp2
      go_roundw
      case rel => exact ⟨2, by omega, rfl, rfl, by first | rfl | trivial⟩
      case measure => simp [RowKit.intOf]
    · go_wp2_with fail
      refine (vGrow0 _).mono ?_
      rintro e u ⟨rfl, hu⟩
      obtain rfl := hu.symm
      go_wp2_with fail
      go_loopw [6, 27] (fun s t wr2 => ∃ k : Nat, k ≤ 2 ∧ t = .int .i64 k ∧ (∃ o c, s = .slice o 0 c) ∧ Hid (wr2.ownsRow w.heap.size 3 1 s 0 []) ∧ Hid (Below w.heap.size w wr2)) (fun _ t _ => 2 - (RowKit.intOf t).toNat)
      case atStart => exact ⟨0, by omega, rfl, ⟨none, 0, rfl⟩, hideR (World.ownsRow_nil _ _ _ _), hideR (Below.refl _ _)⟩
      case round =>
        obtain ⟨k, hk, rfl, ⟨oS, cS, rfl⟩, HO, HB⟩ := hrel
        have e0 := cell_on HB.out h0
        have e1 := cell_on HB.out h1
        have hc : k = 0 ∨ k = 1 ∨ k = 2 := by omega
        rcases hc with rfl | rfl | rfl
        · skip
          have HO2 := hideR HO.out
          go_wp2_with (first | (at_builtin; refine wpList_appS rfl _ _ 23 rfl w.heap.size 3 i0 _ 1 8 Tryd.underlying23 hi0 hz0 hz1 hz2 rfl (by decide) _ _ _ rfl HO2.out o1 0 k1 [] rfl (fun _ => rfl) ?c0 ?c1 ?c2 ?c3 ?c4 ?c5 ?_))
          case c0 => rfl
          case c1 => exact fun ad _ j u hj => by simp at hj
          case c2 => exact fun u hu => by cases hu
          case c3 => unfold maxLen; omega
          case c4 => omega
          case c5 => exact HB.out.size
          intro v9 w9 hown9 hg9 hv9
          have HB9 := hideR (HB.out.grown hg9 HB.out.size (fun q hq => (HO2.out.lt q hq).1))
          have HO9 := hideR hown9
          have hsl := own_slice hown9
          clear hown9 hg9 hv9 HO2
          obtain ⟨oN, cN, rfl⟩ := hsl
          go_wp2
          go_roundw
          case rel => exact ⟨1, by omega, rfl, ⟨oN, cN, rfl⟩, HO9, HB9⟩
          case measure => simp [RowKit.intOf]
        · skip
          have HO2 := hideR HO.out
          go_wp2_with (first | (at_builtin; refine wpList_appS rfl _ _ 23 rfl w.heap.size 3 i0 _ 1 8 Tryd.underlying23 hi0 hz0 hz1 hz2 rfl (by decide) _ _ _ rfl HO2.out o2 0 k2 [] rfl (fun _ => rfl) ?d0 ?d1 ?d2 ?d3 ?d4 ?d5 ?_))
          case d0 => rfl
          case d1 => exact fun ad _ j u hj => by simp at hj
          case d2 => exact fun u hu => by cases hu
          case d3 => unfold maxLen; omega
          case d4 => omega
          case d5 => exact HB.out.size
          intro v9 w9 hown9 hg9 hv9
          have HB9 := hideR (HB.out.grown hg9 HB.out.size (fun q hq => (HO2.out.lt q hq).1))
          have HO9 := hideR hown9
          have hsl := own_slice hown9
          clear hown9 hg9 hv9 HO2
          obtain ⟨oN, cN, rfl⟩ := hsl
          go_wp2
          go_roundw
          case rel => exact ⟨2, by omega, rfl, ⟨oN, cN, rfl⟩, HO9, HB9⟩
          case measure => simp [RowKit.intOf]
        · go_wp2
          go_ret
          exact ⟨⟨_, _, rfl⟩, HB.out⟩
namespace Val
/-- a body's typing as it begins -/
theorem TS.start {w u : World} {p : Nat} {c : Nat → Value} {loc : Value} (hb : Below w.heap.size w u) (hp : w.heap.size ≤ p) (hc : u.heap[p]? = some (.cells #[c 0, c 1, c 2, c 3, c 4, c 5, c 6, c 7, c 8, c 9, loc, .slice none 0 0, .slice none 0 0] 57 (0, 0))) :
    TS w p c loc [] [] (.slice none 0 0) (.slice none 0 0) u :=
  ⟨hb, hp, hc, World.ownsRow_nil _ _ _ _, World.ownsRow_nil _ _ _ _, fun f hf => by cases hf⟩
def tG (b2 b3 b4 : Nat) (c : Nat → Value) (pv lv : Value) (w : World) (i : Nat) (v : Value) (u : World) : Prop :=
  match i with
  | 0 => v = .agg #[c 0, c 1, c 2, c 3, c 4, c 5, c 6, c 7, c 8, c 9]
  | 1 => v = .pointer (some ⟨b4, 0, none⟩)
  | 2 => v = pv
  | 3 => v = .pointer (some ⟨b3, 1, none⟩)
  | 4 => v = lv
  | 5 => ∃ b, v = .slice (some ⟨b, 0, none⟩) 2 2 ∧ u.heap[b]? = some (.cells #[pv, lv] 23 (0, 0))
  | 6 => ∃ o k, v = .slice o 0 k
  | 7 => ∃ o k, v = .agg #[c 0, c 1, c 2, c 3, c 4, c 5, c 6, c 7, c 8, c 9, .slice o 0 k, .slice none 0 0, .slice none 0 0]
  | _ => ∃ p o k, v = .pointer (some ⟨p, 0, none⟩) ∧ w.heap.size ≤ p ∧ u.heap[p]? = some (.cells #[c 0, c 1, c 2, c 3, c 4, c 5, c 6, c 7, c 8, c 9, .slice o 0 k, .slice none 0 0, .slice none 0 0] 57 (0, 0))
theorem tG_stab {b2 b3 b4 : Nat} {c : Nat → Value} {pv lv : Value} {w u u' : World} {i : Nat} {v : Value} (h : tG b2 b3 b4 c pv lv w i v u) (hb : Below u.heap.size u u') : tG b2 b3 b4 c pv lv w i v u' := by
  have hk : ∀ b o, u.heap[b]? = some o → u'.heap[b]? = some o := fun b o ho => by rw [hb.block b (Array.getElem?_eq_some_iff.1 ho).1]; exact ho
  match i, h with
  | 0, h => exact h
  | 1, h => exact h
  | 2, h => exact h
  | 3, h => exact h
  | 4, h => exact h
  | 5, ⟨b, h1, h2⟩ => exact ⟨b, h1, hk _ _ h2⟩
  | 6, h => exact h
  | 7, h => exact h
  | n + 8, ⟨p, o, k, h1, h2, h3⟩ => exact ⟨p, o, k, h1, h2, hk _ _ h3⟩
end Val
set_option maxRecDepth 100000 in
set_option maxHeartbeats 8000000 in
theorem vBody {d : Nat} (w : World) (c : Nat → Value) (ti : Nat) (bT oT nT kT : Nat) (pv rv lv bv : Value) (rs : List Int) (l : List (Ins (IL d)))
    (hc0 : c 0 = .slice (some ⟨bT, oT, none⟩) nT kT) (hcs : ∀ j, j < 10 → ∃ o n k, c j = .slice o n k) (hti : ti < nT) (h1 : w.cell? ⟨bT, oT + ti * 2, none⟩ = some pv) (h2 : w.cell? ⟨bT, oT + ti * 2 + 1, none⟩ = some rv)
    (hp : ∃ o k, pv = .slice o 0 k) (hl : ∃ o k, lv = .slice o 0 k) (hr : IntsS w (fun k => k < w.heap.size) rv rs) (hA : AtS w (fun k => k < w.heap.size) (d + 1) bv l)
    (hsm : ∀ x ∈ l, SmI 1 x) (hrl : rs.length ≤ 100000) (hll : l.length ≤ 100000000) :
    Calls Tryd.prog 11 #[.agg #[c 0, c 1, c 2, c 3, c 4, c 5, c 6, c 7, c 8, c 9], .agg #[.int .i64 ti, lv, bv]] w fun e w' => (match wnP stpS l [] ⟨rs, rs, 0, false⟩ with | .ok _ => e = .returned (.tuple #[]) | .error z => e = .panicked (gave z)) ∧ Below w.heap.size w w' := by
  obtain ⟨op, kp, rfl⟩ := hp
  obtain ⟨ol, kl, rfl⟩ := hl
  obtain ⟨oR, cR, rfl⟩ := Row.len (show Row 1 _ rv rs from hr)
  obtain ⟨oB, cB, rfl⟩ := Row.len hA
  obtain ⟨o1, n1, k1, e1⟩ := hcs 1 (by omega)
  obtain ⟨o2, n2, k2, e2⟩ := hcs 2 (by omega)
  obtain ⟨o3, n3, k3, e3⟩ := hcs 3 (by omega)
  obtain ⟨o4, n4, k4, e4⟩ := hcs 4 (by omega)
  obtain ⟨o5, n5, k5, e5⟩ := hcs 5 (by omega)
  obtain ⟨o6, n6, k6, e6⟩ := hcs 6 (by omega)
  obtain ⟨o7, n7, k7, e7⟩ := hcs 7 (by omega)
  obtain ⟨o8, n8, k8, e8⟩ := hcs 8 (by omega)
  obtain ⟨o9, n9, k9, e9⟩ := hcs 9 (by omega)
  rw [hc0, e1, e2, e3, e4, e5, e6, e7, e8, e9]
  obtain ⟨X, hX⟩ : ∃ X, X = wnP stpS l [] ⟨rs, rs, 0, false⟩ := ⟨_, rfl⟩
  rw [← hX]
  have HX := hideR hX
  obtain ⟨w1, hw1⟩ : ∃ w1, w1 = (w.alloc (.cells #[.slice (some ⟨bT, oT, none⟩) nT kT, .slice o1 n1 k1, .slice o2 n2 k2, .slice o3 n3 k3, .slice o4 n4 k4, .slice o5 n5 k5, .slice o6 n6 k6, .slice o7 n7 k7, .slice o8 n8 k8, .slice o9 n9 k9] 40)).alloc (.cells #[.int .i64 ti, .slice ol 0 kl, .slice oB l.length cB] 31) := ⟨_, rfl⟩
  have hb1 : Below w.heap.size w w1 := by rw [hw1]; exact below_go' (new_on' _ _) (new_on' _ _)
  have q1 := cell_on hb1 h1
  have q2 := cell_on hb1 h2
  obtain ⟨w2, hw2⟩ : ∃ w2, w2 = w1.alloc (.cells #[.slice op 0 kp, .slice oR rs.length cR] 28) := ⟨_, rfl⟩
  have hs1 : w1.heap.size = w.heap.size + 2 := by rw [hw1]; simp
  have hb2 : Below w.heap.size w w2 := by rw [hw2]; exact below_go' hb1 (new_on' _ _)
  have a2 : w1.heap[w.heap.size]? = some (.cells #[.slice (some ⟨bT, oT, none⟩) nT kT, .slice o1 n1 k1, .slice o2 n2 k2, .slice o3 n3 k3, .slice o4 n4 k4, .slice o5 n5 k5, .slice o6 n6 k6, .slice o7 n7 k7, .slice o8 n8 k8, .slice o9 n9 k9] 40 (0, 0)) := by rw [hw1]; exact alloc_of (World.alloc_heap_new w _)
  have a3 : w1.heap[w.heap.size + 1]? = some (.cells #[.int .i64 ti, .slice ol 0 kl, .slice oB l.length cB] 31 (0, 0)) := by
    rw [hw1]
    have := World.alloc_heap_new (w.alloc (.cells #[.slice (some ⟨bT, oT, none⟩) nT kT, .slice o1 n1 k1, .slice o2 n2 k2, .slice o3 n3 k3, .slice o4 n4 k4, .slice o5 n5 k5, .slice o6 n6 k6, .slice o7 n7 k7, .slice o8 n8 k8, .slice o9 n9 k9] 40)) (.cells #[.int .i64 ti, .slice ol 0 kl, .slice oB l.length cB] 31)
    rw [World.size_alloc] at this; exact this
  have g2 : w2.heap[w.heap.size]? = some (.cells #[.slice (some ⟨bT, oT, none⟩) nT kT, .slice o1 n1 k1, .slice o2 n2 k2, .slice o3 n3 k3, .slice o4 n4 k4, .slice o5 n5 k5, .slice o6 n6 k6, .slice o7 n7 k7, .slice o8 n8 k8, .slice o9 n9 k9] 40 (0, 0)) := by rw [hw2]; exact alloc_of a2
  have g3 : w2.heap[w.heap.size + 1]? = some (.cells #[.int .i64 ti, .slice ol 0 kl, .slice oB l.length cB] 31 (0, 0)) := by rw [hw2]; exact alloc_of a3
  have g4 : w2.heap[w.heap.size + 2]? = some (.cells #[.slice op 0 kp, .slice oR rs.length cR] 28 (0, 0)) := by
    rw [hw2, ← hs1]; exact World.alloc_heap_new w1 _
  have z0 : w1.cell? ⟨w.heap.size, 0, none⟩ = some (.slice (some ⟨bT, oT, none⟩) nT kT) := by unfold World.cell?; rw [a2]; rfl
  have z1 : w1.cell? ⟨w.heap.size + 1, 0, none⟩ = some (.int .i64 ti) := by unfold World.cell?; rw [a3]; rfl
  have HW1 := hideR hw1
  have HW2 := hideR hw2
  have HS1 := hideR hs1
  have HB2 := hideR hb2
  have HG2 := hideR g2
  have HG3 := hideR g3
  have HG4 := hideR g4
  have HR := hideR hr
  have HA := hideR hA
  have HSM := hideR hsm
  clear hw1 hw2 hs1 hb2 g2 g3 g4 a2 a3 hX hr hA hsm h1 h2 hb1 hcs hc0 e1 e2 e3 e4 e5 e6 e7 e8 e9
  go_enter Tryd.func11, Tryd.ntmps11
  go_upto_region 1 with fail
  rw [← HW1.out]
  clear HW1
  go_upto_region 2 with fail
  rw [← HW2.out, HS1.out]
  clear HW2 q1 q2 z0 z1
  obtain ⟨cf, hcf⟩ : ∃ cf : Nat → Value, cf = (fun j : Nat => match j with | 0 => Value.slice (some ⟨bT, oT, none⟩) nT kT | 1 => .slice o1 n1 k1 | 2 => .slice o2 n2 k2 | 3 => .slice o3 n3 k3 | 4 => .slice o4 n4 k4 | 5 => .slice o5 n5 k5 | 6 => .slice o6 n6 k6 | 7 => .slice o7 n7 k7 | 8 => .slice o8 n8 k8 | _ => .slice o9 n9 k9) := ⟨_, rfl⟩
  refine Reg.wp_region_two 9 (fun i => 12 + i) (tG w.heap.size (w.heap.size + 1) (w.heap.size + 2) (fun j : Nat => match j with | 0 => Value.slice (some ⟨bT, oT, none⟩) nT kT | 1 => .slice o1 n1 k1 | 2 => .slice o2 n2 k2 | 3 => .slice o3 n3 k3 | 4 => .slice o4 n4 k4 | 5 => .slice o5 n5 k5 | 6 => .slice o6 n6 k6 | 7 => .slice o7 n7 k7 | 8 => .slice o8 n8 k8 | _ => .slice o9 n9 k9) (.slice op 0 kp) (.slice ol 0 kl) w) (by kernel_rfl) (by kernel_rfl) (fun i j h1 h2 h => by have h' : 12 + i = 12 + j := h; omega) (Reg.dst_ok (size := 31) (by kernel_rfl)) (fun i v w w' _ h hb => tG_stab h hb) ?hstep ?htail
  case hstep =>
    intro j o a u1 hj ho hF hu1 hd
    have f2 : a.tmps[2]?.getD undef = .pointer (some ⟨w.heap.size, 0, none⟩) := Reg.ev_get (hF.eval 2 (fun i hi => by show 12 + i ≠ 2; omega))
    have f3 : a.tmps[3]?.getD undef = .pointer (some ⟨w.heap.size + 1, 0, none⟩) := Reg.ev_get (hF.eval 3 (fun i hi => by show 12 + i ≠ 3; omega))
    have f4 : a.tmps[4]?.getD undef = .pointer (some ⟨w.heap.size + 2, 0, none⟩) := Reg.ev_get (hF.eval 4 (fun i hi => by show 12 + i ≠ 4; omega))
    have hcase : j = 0 ∨ j = 1 ∨ j = 2 ∨ j = 3 ∨ j = 4 ∨ j = 5 ∨ j = 6 ∨ j = 7 ∨ j = 8 := by omega
    clear hj
    rcases hcase with rfl | rfl | rfl | rfl | rfl | rfl | rfl | rfl | rfl
    all_goals (simp only [List.getElem?_toArray, List.getElem?_cons_succ, List.getElem?_cons_zero, Option.some.injEq] at ho; subst ho; refine Reg.step_k fun K hK => ?_)
    · skip
      have y0 : u1.cell? ⟨w.heap.size, 0, none⟩ = some (.slice (some ⟨bT, oT, none⟩) nT kT) := by unfold World.cell?; rw [hu1.block _ (Array.getElem?_eq_some_iff.1 HG2.out).1, HG2.out]; rfl
      have y1 : u1.cell? ⟨w.heap.size, 1, none⟩ = some (.slice o1 n1 k1) := by unfold World.cell?; rw [hu1.block _ (Array.getElem?_eq_some_iff.1 HG2.out).1, HG2.out]; rfl
      have y2 : u1.cell? ⟨w.heap.size, 2, none⟩ = some (.slice o2 n2 k2) := by unfold World.cell?; rw [hu1.block _ (Array.getElem?_eq_some_iff.1 HG2.out).1, HG2.out]; rfl
      have y3 : u1.cell? ⟨w.heap.size, 3, none⟩ = some (.slice o3 n3 k3) := by unfold World.cell?; rw [hu1.block _ (Array.getElem?_eq_some_iff.1 HG2.out).1, HG2.out]; rfl
      have y4 : u1.cell? ⟨w.heap.size, 4, none⟩ = some (.slice o4 n4 k4) := by unfold World.cell?; rw [hu1.block _ (Array.getElem?_eq_some_iff.1 HG2.out).1, HG2.out]; rfl
      have y5 : u1.cell? ⟨w.heap.size, 5, none⟩ = some (.slice o5 n5 k5) := by unfold World.cell?; rw [hu1.block _ (Array.getElem?_eq_some_iff.1 HG2.out).1, HG2.out]; rfl
      have y6 : u1.cell? ⟨w.heap.size, 6, none⟩ = some (.slice o6 n6 k6) := by unfold World.cell?; rw [hu1.block _ (Array.getElem?_eq_some_iff.1 HG2.out).1, HG2.out]; rfl
      have y7 : u1.cell? ⟨w.heap.size, 7, none⟩ = some (.slice o7 n7 k7) := by unfold World.cell?; rw [hu1.block _ (Array.getElem?_eq_some_iff.1 HG2.out).1, HG2.out]; rfl
      have y8 : u1.cell? ⟨w.heap.size, 8, none⟩ = some (.slice o8 n8 k8) := by unfold World.cell?; rw [hu1.block _ (Array.getElem?_eq_some_iff.1 HG2.out).1, HG2.out]; rfl
      have y9 : u1.cell? ⟨w.heap.size, 9, none⟩ = some (.slice o9 n9 k9) := by unfold World.cell?; rw [hu1.block _ (Array.getElem?_eq_some_iff.1 HG2.out).1, HG2.out]; rfl
      go_simp
      exact hK _ _ ⟨_, rfl, Below.refl _ _, rfl⟩
    · go_simp
      exact hK _ _ ⟨_, rfl, Below.refl _ _, rfl⟩
    · have q : a.tmps[13]?.getD undef = .pointer (some ⟨w.heap.size + 2, 0, none⟩) := Reg.ev_get (hd 1 (by decide))
      have y : u1.cell? ⟨w.heap.size + 2, 0, none⟩ = some (.slice op 0 kp) := by unfold World.cell?; rw [hu1.block _ (Array.getElem?_eq_some_iff.1 HG4.out).1, HG4.out]; rfl
      go_simp
      exact hK _ _ ⟨_, rfl, Below.refl _ _, rfl⟩
    · go_simp
      exact hK _ _ ⟨_, rfl, Below.refl _ _, rfl⟩
    · have q : a.tmps[15]?.getD undef = .pointer (some ⟨w.heap.size + 1, 1, none⟩) := Reg.ev_get (hd 3 (by decide))
      have y : u1.cell? ⟨w.heap.size + 1, 1, none⟩ = some (.slice ol 0 kl) := by unfold World.cell?; rw [hu1.block _ (Array.getElem?_eq_some_iff.1 HG3.out).1, HG3.out]; rfl
      go_simp
      exact hK _ _ ⟨_, rfl, Below.refl _ _, rfl⟩
    · have q : a.tmps[14]?.getD undef = .slice op 0 kp := Reg.ev_get (hd 2 (by decide))
      have q' : a.tmps[16]?.getD undef = .slice ol 0 kl := Reg.ev_get (hd 4 (by decide))
      go_simp
      exact hK _ _ ⟨_, rfl, new_on' _ _, ⟨_, rfl, World.alloc_heap_new _ _⟩⟩
    · obtain ⟨b, q, hbk⟩ := (show ∃ b, a.eval (.tmp 17) = .slice (some ⟨b, 0, none⟩) 2 2 ∧ u1.heap[b]? = some (.cells #[.slice op 0 kp, .slice ol 0 kl] 23 (0, 0)) from hd 5 (by decide))
      have q' : a.tmps[17]?.getD undef = .slice (some ⟨b, 0, none⟩) 2 2 := Reg.ev_get q
      go_simp
      refine (vConcat0 b kp kl op ol u1 (by unfold World.cell?; rw [hbk]; rfl) (by unfold World.cell?; rw [hbk]; rfl)).mono ?_
      rintro e u2 ⟨⟨oc, kc, rfl⟩, hb⟩
      exact hK _ _ ⟨_, rfl, hb, ⟨_, _, rfl⟩⟩
    · obtain ⟨oc, kc, q⟩ := (show ∃ o k, a.eval (.tmp 18) = .slice o 0 k from hd 6 (by decide))
      have q1 : a.tmps[18]?.getD undef = .slice oc 0 kc := Reg.ev_get q
      have q2 : a.tmps[12]?.getD undef = .agg #[.slice (some ⟨bT, oT, none⟩) nT kT, .slice o1 n1 k1, .slice o2 n2 k2, .slice o3 n3 k3, .slice o4 n4 k4, .slice o5 n5 k5, .slice o6 n6 k6, .slice o7 n7 k7, .slice o8 n8 k8, .slice o9 n9 k9] := Reg.ev_get (hd 0 (by decide))
      go_simp
      exact hK _ _ ⟨_, rfl, Below.refl _ _, ⟨_, _, rfl⟩⟩
    · obtain ⟨oc, kc, q⟩ := (show ∃ o k, a.eval (.tmp 19) = .agg #[.slice (some ⟨bT, oT, none⟩) nT kT, .slice o1 n1 k1, .slice o2 n2 k2, .slice o3 n3 k3, .slice o4 n4 k4, .slice o5 n5 k5, .slice o6 n6 k6, .slice o7 n7 k7, .slice o8 n8 k8, .slice o9 n9 k9, .slice o 0 k, .slice none 0 0, .slice none 0 0] from hd 7 (by decide))
      have q1 : a.tmps[19]?.getD undef = .agg #[.slice (some ⟨bT, oT, none⟩) nT kT, .slice o1 n1 k1, .slice o2 n2 k2, .slice o3 n3 k3, .slice o4 n4 k4, .slice o5 n5 k5, .slice o6 n6 k6, .slice o7 n7 k7, .slice o8 n8 k8, .slice o9 n9 k9, .slice oc 0 kc, .slice none 0 0, .slice none 0 0] := Reg.ev_get q
      go_simp
      exact hK _ _ ⟨_, rfl, new_on' _ _, ⟨_, _, _, rfl, Nat.le_trans HB2.out.size hu1.size, World.alloc_heap_new _ _⟩⟩
  case htail =>
    intro a u1 hF hu1 hG
    obtain ⟨x, hxl, rfl, hev⟩ := Reg.Fr.lit hF (by simp)
    match x, hxl with
    | [x0, x1, x2, x3, x4, x5, x6, x7, x8], _ =>
      obtain ⟨p, oc, kc, e8, hpw, hpc⟩ := hG 8 (by decide)
      obtain rfl : x8 = .pointer (some ⟨p, 0, none⟩) := (hev 8 (by decide)).symm.trans e8
      have hbu : Below w.heap.size w u1 := below_go' HB2.out hu1
      have hts := TS.start (c := (fun j : Nat => match j with | 0 => Value.slice (some ⟨bT, oT, none⟩) nT kT | 1 => .slice o1 n1 k1 | 2 => .slice o2 n2 k2 | 3 => .slice o3 n3 k3 | 4 => .slice o4 n4 k4 | 5 => .slice o5 n5 k5 | 6 => .slice o6 n6 k6 | 7 => .slice o7 n7 k7 | 8 => .slice o8 n8 k8 | _ => .slice o9 n9 k9)) (loc := .slice oc 0 kc) hbu hpw hpc
      have hpu : p < u1.heap.size := (Array.getElem?_eq_some_iff.1 hpc).1
      have y1 : u1.cell? ⟨w.heap.size + 2, 1, none⟩ = some (.slice oR rs.length cR) := by unfold World.cell?; rw [hu1.block _ (Array.getElem?_eq_some_iff.1 HG4.out).1, HG4.out]; rfl
      have y2 : u1.cell? ⟨w.heap.size + 1, 2, none⟩ = some (.slice oB l.length cB) := by unfold World.cell?; rw [hu1.block _ (Array.getElem?_eq_some_iff.1 HG3.out).1, HG3.out]; rfl
      have hkk : ∀ k, k < w.heap.size → Kp p (.slice none 0 0) (.slice none 0 0) u1 k ∧ u1.heap[k]? = w.heap[k]? := fun k hk => ⟨⟨Nat.lt_of_lt_of_le hk hbu.size, by omega, by simp [Value.ownBlock], by simp [Value.ownBlock]⟩, hbu.block k hk⟩
      have HW := hideR (vWithin stpS w p (fun j : Nat => match j with | 0 => Value.slice (some ⟨bT, oT, none⟩) nT kT | 1 => .slice o1 n1 k1 | 2 => .slice o2 n2 k2 | 3 => .slice o3 n3 k3 | 4 => .slice o4 n4 k4 | 5 => .slice o5 n5 k5 | 6 => .slice o6 n6 k6 | 7 => .slice o7 n7 k7 | 8 => .slice o8 n8 k8 | _ => .slice o9 n9 k9) (.slice oc 0 kc) [] [] (.slice none 0 0) (.slice none 0 0) u1 hts (.slice oR rs.length cR) (.slice oR rs.length cR) (.slice oB l.length cB) ⟨rs, rs, 0, false⟩ 0 l rfl (HR.out.keep hkk) (HR.out.keep hkk) (AtS.keep hkk _ _ _ HA.out) (fun x hx => insSmall [] x (HSM.out x hx) (by simp)) (fun x _ => stpS_ok x) (by simp) (by simp; omega) hrl)
      rw [← HX.out] at HW
      clear hev hG hF hts hpc hkk hpu
      simp only [List.drop_succ_cons, List.drop_zero, List.take_succ_cons, List.take_zero, List.cons_append, List.nil_append]
      go_wp2_with fail
      refine HW.out.mono ?_
      intro e u3 hx
      cases X with
      | error z =>
        obtain ⟨rfl, hbel⟩ := hx
        exact ⟨rfl, rfl, hbel⟩
      | ok s =>
        obtain ⟨rfl, vs', vf', h1, h2⟩ := hx
        have H1 := hideR h1.below
        clear h1 h2 HW
        go_wp2
        go_end0
        exact ⟨rfl, H1.out⟩
end Go.Proofs.YtlpnoelolkbmmaaDoor
