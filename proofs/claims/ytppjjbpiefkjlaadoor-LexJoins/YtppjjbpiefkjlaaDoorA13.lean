/- Tokens: the document's sameness, of tokens that are alike. -/
import Derived.Test.YtppjjbpiefkjlaaDoorA11
import Derived.Deep.CutRange
import Derived.Deep.RegionWith
namespace Go.Proofs.YtppjjbpiefkjlaaDoor
open Go.RowKit Lx
set_option linter.unusedVariables false
namespace Lx
/-- alike, with places or without -/
def TkEq (p : Bool) (t u : Tk) : Prop := t.k = u.k ∧ t.x = u.x ∧ t.n = u.n ∧ (p = true → t.a = u.a)
theorem TkAt.len {w : World} {v : Value} {l : List Tk} (h : TkAt w v l) : ∃ o c, v = .slice o l.length c := by
  rcases h with ⟨h1, h2⟩ | ⟨g, c, h1, _⟩
  · exact ⟨none, 0, by rw [h1, h2]; rfl⟩
  · exact ⟨_, _, h1⟩
theorem TkAt.some {w : World} {v : Value} {l : List Tk} (h : TkAt w v l) (h0 : 0 < l.length) : ∃ g c, v = .slice (some ⟨g, 0, none⟩) l.length c ∧ ∀ i t, l[i]? = some t → ∀ j u, (cs4 t)[j]? = some u → w.cell? ⟨g, i * 4 + j, none⟩ = some u := by
  rcases h with ⟨h1, h2⟩ | h
  · subst h2; cases h0
  · exact h
theorem drew_on (w : World) : Below w.heap.size w w.drew := (Below.refl _ w).drew
theorem new_on (w : World) (o : Obj) : Below w.heap.size w (w.alloc o) := (Below.refl _ w).alloc (Nat.le_refl _) o
theorem Tb.drew {b : Nat} {a0 a1 a2 a3 : Value} {w : World} (h : Tb b a0 a1 a2 a3 w) : Tb b a0 a1 a2 a3 w.drew := h.on (drew_on w)
theorem aT {n k : Nat} (h : k < n) : decide ((k : Int) < (n : Int)) = true := decide_eq_true (by omega)
theorem aU {k : Nat} (h : k < 4097) : wrap64 ((k : Int) + 1) = ((k + 1 : Nat) : Int) := by unfold wrap64; omega
theorem cells_on {w w' : World} {g : Nat} {l : List Tk} (h : ∀ i t, l[i]? = some t → ∀ j u, (cs4 t)[j]? = some u → w.cell? ⟨g, i * 4 + j, none⟩ = some u) (hb : Below w.heap.size w w') : ∀ i t, l[i]? = some t → ∀ j u, (cs4 t)[j]? = some u → w'.cell? ⟨g, i * 4 + j, none⟩ = some u := fun i t hi j u hj => by
  have hc := h i t hi j u hj
  have hlt : g < w.heap.size := World.block_lt_of_cell? _ _ hc
  unfold World.cell? at hc ⊢
  rw [hb.block g hlt]
  exact hc
theorem ne_self (a : Int) : (a != a) = false := by simp
theorem ne_selfB (a : ByteArray) : (a.toList != a.toList) = false := by simp
end Lx
set_option maxRecDepth 100000 in
set_option maxHeartbeats 8000000 in
theorem rSame (va vb : Value) (la lb : List Tk) (p : Bool) (w : World) (ha : TkAt w va la) (hb : TkAt w vb lb) (hl : la.length = lb.length) (h4 : la.length ≤ 4096) (hal : ∀ (i : Nat) t u, la[i]? = some t → lb[i]? = some u → TkEq p t u) :
    Calls Tryd.prog 9 #[va, vb, .bool p] w fun e w' => e = .returned (.bool true) ∧ Below w.heap.size w w' := by
  by_cases h0 : la.length = 0
  · obtain ⟨o1, c1, rfl⟩ := ha.len
    obtain ⟨o2, c2, rfl⟩ := hb.len
    rw [← hl, h0]
    clear ha hb hal
    go_enter Tryd.func9, Tryd.ntmps9
    go_wp2_with fail
    go_loop [7] (fun a => a = .int .i64 0) (fun _ => 0)
    case atStart => rfl
    case round =>
      subst hrel
      go_wp2
      go_ret
      exact ⟨rfl, Below.refl _ _⟩
  · obtain ⟨g1, c1, rfl, HX⟩ := ha.some (by omega)
    obtain ⟨g2, c2, rfl, HY⟩ := hb.some (by omega)
    have HX := hideR HX
    have HY := hideR HY
    have HAL := hideR hal
    obtain ⟨n, hn⟩ : ∃ n, n = la.length := ⟨_, rfl⟩
    rw [← hl, ← hn]
    have HN1 := hideR hn
    have HN2 := hideR (hn.trans hl)
    have HN4 := hideR (show n ≤ 4096 by omega)
    clear ha hb hal hl h4 h0 hn
    go_enter Tryd.func9, Tryd.ntmps9
    go_wp2_with fail
    go_loopw [7] (fun a w' => ∃ k : Nat, a = .int .i64 k ∧ k ≤ n ∧ Hid (Below w.heap.size w w') ∧ Hid (∀ i t, la[i]? = some t → ∀ j u, (cs4 t)[j]? = some u → w'.cell? ⟨g1, i * 4 + j, none⟩ = some u) ∧ Hid (∀ i t, lb[i]? = some t → ∀ j u, (cs4 t)[j]? = some u → w'.cell? ⟨g2, i * 4 + j, none⟩ = some u)) (fun a _ => match a with | .int _ k => n - k.toNat | _ => 0)
    case atStart => exact ⟨0, rfl, Nat.zero_le _, hideR (Below.refl _ _), HX, HY⟩
    case round =>
      obtain ⟨k, rfl, hk, HB, HX, HY⟩ := hrel
      by_cases hp : k < n
      · have q1 := aT hp
        have hw1 := aU (k := k) (by have := HN4.out; omega)
        obtain ⟨t, ht⟩ : ∃ t, la[k]? = some t := ⟨_, List.getElem?_eq_getElem (by have := HN1.out; omega)⟩
        obtain ⟨u, hu⟩ : ∃ u, lb[k]? = some u := ⟨_, List.getElem?_eq_getElem (by have := HN2.out; omega)⟩
        obtain ⟨e1, e2, e3, e4⟩ := HAL.out k t u ht hu
        have x0 : wr.cell? ⟨g1, k * 4, none⟩ = some (.int .i64 t.k) := HX.out k t ht 0 _ rfl
        have x1 : wr.cell? ⟨g1, k * 4 + 1, none⟩ = some (.string t.x) := HX.out k t ht 1 _ rfl
        have x2 : wr.cell? ⟨g1, k * 4 + 2, none⟩ = some (.int .i64 t.n) := HX.out k t ht 2 _ rfl
        have x3 : wr.cell? ⟨g1, k * 4 + 3, none⟩ = some (.int .i64 t.a) := HX.out k t ht 3 _ rfl
        have y0 : wr.cell? ⟨g2, k * 4, none⟩ = some (.int .i64 t.k) := by rw [e1]; exact HY.out k u hu 0 _ rfl
        have y1 : wr.cell? ⟨g2, k * 4 + 1, none⟩ = some (.string t.x) := by rw [e2]; exact HY.out k u hu 1 _ rfl
        have y2 : wr.cell? ⟨g2, k * 4 + 2, none⟩ = some (.int .i64 t.n) := by rw [e3]; exact HY.out k u hu 2 _ rfl
        have y3 : wr.cell? ⟨g2, k * 4 + 3, none⟩ = some (.int .i64 u.a) := HY.out k u hu 3 _ rfl
        have HE4 := hideR e4
        obtain ⟨tk, tx, tn, ta⟩ := t
        obtain ⟨uk, ux, un, ua⟩ := u
        simp only at x0 x1 x2 x3 y0 y1 y2 y3 HE4
        have z1 : g1 < wr.heap.size := World.block_lt_of_cell? _ _ x0
        have z2 : g2 < wr.heap.size := World.block_lt_of_cell? _ _ y0
        clear ht hu e1 e2 e3 e4 HAL
        go_upto_region 6 with fail
        go_cut [8, 9] from 21 to 28 (fun s8 s9 wx => ∃ b1 b2 : Nat, s8 = .pointer (some ⟨b1, 0, none⟩) ∧ s9 = .pointer (some ⟨b2, 0, none⟩) ∧ Hid (Tb b1 (.int .i64 tk) (.string tx) (.int .i64 tn) (.int .i64 ta) wx) ∧ Hid (Tb b2 (.int .i64 tk) (.string tx) (.int .i64 tn) (.int .i64 ua) wx) ∧ Hid (Below wr.heap.size wr wx))
        case first =>
          go_region
          · go_wp2_with fail
            go_meet
            exact ⟨wr.heap.size, wr.heap.size + 1, rfl, rfl, hideR (((Tb.new wr rfl).on (new_on _ _)).on (drew_on _)), hideR ((Tb.new _ (by simp)).on (drew_on _)), hideR (below_go (below_go (new_on _ _) (new_on _ _)) (drew_on _))⟩
          · go_wp2_with fail
            go_meet
            exact ⟨wr.heap.size + 1, wr.heap.size, rfl, rfl, hideR ((Tb.new _ (by simp)).on (drew_on _)), hideR (((Tb.new wr rfl).on (new_on _ _)).on (drew_on _)), hideR (below_go (below_go (new_on _ _) (new_on _ _)) (drew_on _))⟩
        obtain ⟨b1, b2, rfl, rfl, T1, T2, HC⟩ := hcut
        have m0 := T1.out.cell 0 _ rfl
        have m1 := T1.out.cell 1 _ rfl
        have m2 := T1.out.cell 2 _ rfl
        have m3 := T1.out.cell 3 _ rfl
        have n0 := T2.out.cell 0 _ rfl
        have n1 := T2.out.cell 1 _ rfl
        have n2 := T2.out.cell 2 _ rfl
        have n3 := T2.out.cell 3 _ rfl
        have k0 := ne_self tk
        have k1 := ne_selfB tx
        have k2 := ne_self tn
        have HB2 := hideR (below_go HB.out HC.out)
        have HX2 := hideR (cells_on HX.out HC.out)
        have HY2 := hideR (cells_on HY.out HC.out)
        clear x0 x1 x2 x3 y0 y1 y2 y3 z1 z2 T1 T2 HC HB HX HY
        cases p with
        | true =>
          obtain rfl := HE4.out rfl
          have k3 := ne_self ta
          clear HE4
          go_wp2
          go_roundw
          case rel => exact ⟨k + 1, by first | rfl | (congr 1), hp, HB2, HX2, HY2⟩
          case measure => simp; omega
        | false =>
          clear HE4
          go_wp2
          go_roundw
          case rel => exact ⟨k + 1, by first | rfl | (congr 1), hp, HB2, HX2, HY2⟩
          case measure => simp; omega
      · obtain rfl : k = n := by omega
        have q1 := aK k k (Nat.lt_irrefl _)
        go_wp2
        go_ret
        exact ⟨rfl, HB.out⟩
end Go.Proofs.YtppjjbpiefkjlaaDoor
