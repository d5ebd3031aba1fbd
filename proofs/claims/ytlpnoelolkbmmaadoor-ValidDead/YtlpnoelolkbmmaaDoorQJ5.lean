/- QJ5: several texts in one. -/
import Derived.Test.YtlpnoelolkbmmaaDoorQJ3
import Derived.Shelf.Spec.SlicesGrow
import Derived.Laws.AppendOwn
import Derived.Laws.AppendOwnNone
import Derived.OwnWalk
import Derived.Test.YtlpnoelolkbmmaaDoorQW11
import Derived.Test.YtlpnoelolkbmmaaDoorW13
import Derived.Test.YtlpnoelolkbmmaaDoorPF4
import Derived.Test.YtlpnoelolkbmmaaDoorV12
import Derived.Test.YtlpnoelolkbmmaaDoorRK0
import Derived.Defers
import Derived.Recover
namespace Go.Proofs
open Go.RowKit Go.Shelf Go.Lib

shelf_lay_g Lays8.n4 Nm8 4 at Tryd 61 as Tryd.growL

namespace YtlpnoelolkbmmaaDoor
open Go.RowKit Rep
namespace Rep
def limCells : List Lim → List Value
  | [] => []
  | x :: r => .int .i64 x.min :: .int .i64 x.max :: .bool x.has :: limCells r
theorem limCells_len : ∀ l : List Lim, (limCells l).length = l.length * 3
  | [] => rfl
  | x :: r => by show (limCells r).length + 1 + 1 + 1 = (r.length + 1) * 3; rw [limCells_len r]; omega
theorem limCells_app : ∀ a b : List Lim, limCells (a ++ b) = limCells a ++ limCells b
  | [], _ => rfl
  | x :: r, b => by show _ :: _ :: _ :: limCells (r ++ b) = _; rw [limCells_app r b]; rfl
theorem limCells_one : ∀ (l : List Lim) (u : Value), u ∈ limCells l → u.oneCell' = true
  | [], _, h => by cases h
  | x :: r, u, h => by
    simp only [limCells, List.mem_cons] at h
    rcases h with rfl | rfl | rfl | h
    · rfl
    · rfl
    · rfl
    · exact limCells_one r u h
theorem limCells_get : ∀ (l : List Lim) (i : Nat) (x : Lim), l[i]? = some x → (limCells l)[i * 3]? = some (.int .i64 x.min) ∧ (limCells l)[i * 3 + 1]? = some (.int .i64 x.max) ∧ (limCells l)[i * 3 + 2]? = some (.bool x.has)
  | [], _, _, h => by simp at h
  | y :: r, 0, x, h => by
    simp at h; subst h; exact ⟨rfl, rfl, rfl⟩
  | y :: r, i + 1, x, h => by
    have h' : r[i]? = some x := by simpa using h
    have := limCells_get r i x h'
    have e : (i + 1) * 3 = i * 3 + 1 + 1 + 1 := by omega
    rw [e]
    simpa [limCells] using this
theorem limCells_at {w : World} {b off : Nat} : ∀ (l : List Lim) (o : Nat), (∀ (i : Nat) (x : Lim), l[i]? = some x → LimAt w b (o + i * 3) x) → ∀ j u, (limCells l)[j]? = some u → w.cell? ⟨b, o + j, none⟩ = some u
  | [], _, _, _, _, h => by simp [limCells] at h
  | x :: r, o, hx, j, u, h => by
    have h0 := hx 0 x rfl
    match j, h with
    | 0, h => simp [limCells] at h; subst h; simpa using h0.min
    | 1, h => simp [limCells] at h; subst h; simpa using h0.max
    | 2, h => simp [limCells] at h; subst h; simpa using h0.has
    | j + 3, h =>
      have h' : (limCells r)[j]? = some u := by simpa [limCells] using h
      have := limCells_at (b := b) (off := off) r (o + 3) (fun i y hy => by
        have := hx (i + 1) y (by simpa using hy)
        rw [show o + 3 + i * 3 = o + (i + 1) * 3 by omega]; exact this) j u h'
      rw [show o + (j + 3) = o + 3 + j by omega]; exact this
end Rep
end YtlpnoelolkbmmaaDoor
end Go.Proofs

namespace Go.Proofs.YtlpnoelolkbmmaaDoor
open Go.RowKit Go.Shelf Rep
set_option linter.unusedVariables false
namespace Rep
def upto (L3 L4 : List Lim) (j : Nat) : List Lim := if j = 0 then [] else if j = 1 then L3 else L3 ++ L4
def nth (L3 L4 : List Lim) (j : Nat) : List Lim := if j = 0 then L3 else L4
theorem upto_on (L3 L4 : List Lim) (j : Nat) (h : j < 2) : upto L3 L4 (j + 1) = upto L3 L4 j ++ nth L3 L4 j := by
  rcases (by omega : j = 0 ∨ j = 1) with rfl | rfl <;> rfl
theorem below_grown {B : Nat} {a w w' : World} {v : Value} {n e : Nat} {xs : List Value} (h : Below B a w) (hown : w.ownsRow B e 3 v n xs) (hg : w.grownBy w' v.ownBlock) (hB : B ≤ w.heap.size) : Below B a w' :=
  h.grown hg hB fun k hk => (hown.lt k hk).1
theorem addr_eq (g k o : Nat) (h : o = 0 + k) : (⟨g, o, none⟩ : Addr) = (⟨g, 0, none⟩ : Addr).add k := by
  subst h
  by_cases hk : k = 0
  · subst hk; rfl
  · simp [Addr.add, hk]
theorem addr_eq' (g o k : Nat) : (⟨g, o, none⟩ : Addr).add k = ⟨g, o + k, none⟩ := by
  by_cases hk : k = 0
  · subst hk; rfl
  · simp [Addr.add, hk]
theorem row_none {w : World} {n c : Nat} {L : List Lim} (h : Row 3 (LimAt w) (.slice none n c) L) : L = [] := by
  rcases h.2 with ⟨h, _⟩ | ⟨_, _, _, h, _⟩
  · exact h
  · injection h with h; cases h
theorem row_at {w : World} {ad : Addr} {n c : Nat} {L : List Lim} (h : Row 3 (LimAt w) (.slice (some ad) n c) L) : ∀ jx ux, (limCells L)[jx]? = some ux → w.cell? (ad.add jx) = some ux := by
  intro jx ux hx
  rcases h.2 with ⟨h, _⟩ | ⟨bb, oo, cc, h, hcell⟩
  · rw [h] at hx; simp [limCells] at hx
  · injection h with h1; injection h1 with h1; subst h1
    have := limCells_at (off := 0) L oo hcell jx ux hx
    rw [addr_eq' bb oo jx]; exact this
theorem own_row {w : World} {B e : Nat} {v : Value} {l : List Lim} (h : w.ownsRow B e 3 v l.length (limCells l)) (hl : l.length ≤ 9223372036854775807) : ∃ o c, v = .slice o l.length c ∧ Row 3 (LimAt w) (.slice o l.length c) l := by
  rcases h.2 with ⟨rfl, h0⟩ | ⟨g, cap, cur, rfl, _⟩
  · obtain rfl : l = [] := List.length_eq_zero_iff.1 h0
    exact ⟨none, 0, rfl, hl, .inl ⟨rfl, none, 0, rfl⟩⟩
  · refine ⟨some ⟨g, 0, none⟩, cap, rfl, hl, .inr ⟨g, 0, cap, rfl, fun i x hi => ?_⟩⟩
    have hc := h.cells (g := g) rfl
    have hg := limCells_get l i x hi
    refine ⟨?_, ?_, ?_⟩
    · rw [addr_eq g (i * 3) (0 + i * 3) rfl]; exact hc _ _ hg.1
    · rw [addr_eq g (i * 3 + 1) (0 + i * 3 + 1) (by omega)]; exact hc _ _ hg.2.1
    · rw [addr_eq g (i * 3 + 2) (0 + i * 3 + 2) (by omega)]; exact hc _ _ hg.2.2
end Rep

theorem limInfo : (Tryd.prog.info? 72).map (fun i => (i.zero, i.size, i.bytes)) = some (some (.agg #[.int .i64 0, .int .i64 0, .bool false]), 3, 24) := by kernel_rfl
theorem pGrow (n : Nat) (h : n ≤ 8192) (w : World) : Calls Tryd.prog 61 #[.slice none 0 0, .int .i64 n] w fun e w' =>
    ∃ v, e = .returned v ∧ w'.ownsRow w.heap.size 72 3 v 0 [] ∧ Below w.heap.size w w' := by
  by_cases h0 : n = 0
  · subst h0
    refine (Any8.slices_Grow_room Tryd.growL none 0 0 0 w (by omega) (by omega) (by omega) (by omega)).mono ?_
    rintro e w' ⟨rfl, rfl⟩
    exact ⟨_, rfl, World.ownsRow_nil _ _ _ _, Below.refl _ _⟩
  · obtain ⟨i0, hi, hz, hs, hby⟩ := info_parts limInfo
    refine (Any8.slices_Grow_grow Tryd.growL i0 _ hi hz (by omega) none 0 0 n [] w (by omega) (by omega) (by rw [hby]; omega) (by omega) (by simp) (fun _ => rfl) (fun a ha => by cases ha)).mono ?_
    rintro e w' ⟨rfl, rfl⟩
    have hge := grownCap_ge w (0 + n) 0 72
    have hle := grownCap_le_maxLen w (0 + n) 0 72 (by unfold maxLen; omega)
    refine ⟨_, rfl, World.ownsRow_made w.drew _ _ (Nat.le_refl _) hle ?_, (Below.refl _ w).drew.alloc (Nat.le_refl _) _⟩
    simp only [Array.size_append, size_zeroCells]
    show 0 + (0 + n - 0) * 3 + (grownCap w (0 + n) 0 72 - (0 + n)) * 3 = grownCap w (0 + n) 0 72 * 3
    omega

set_option maxHeartbeats 2000000 in
theorem pConcat (L3 L4 : List Lim) (o3 o4 : Option Addr) (c3 c4 : Nat) (u : World) (b : Nat) (h3 : Row 3 (LimAt u) (.slice o3 L3.length c3) L3) (h4 : Row 3 (LimAt u) (.slice o4 L4.length c4) L4)
    (z3 : o3 = none → c3 = 0) (z4 : o4 = none → c4 = 0) (k0 : u.cell? ⟨b, 0, none⟩ = some (.slice o3 L3.length c3)) (k1 : u.cell? ⟨b, 1, none⟩ = some (.slice o4 L4.length c4)) (b3 : L3.length ≤ 4096) (b4 : L4.length ≤ 4096) :
    Calls Tryd.prog 46 #[.slice (some ⟨b, 0, none⟩) 2 2] u fun e u' =>
      (∃ o c, e = .returned (.slice o (L3 ++ L4).length c) ∧ Row 3 (LimAt u') (.slice o (L3 ++ L4).length c) (L3 ++ L4)) ∧ Below u.heap.size u u' := by
  have H3 := hideM h3
  have H4 := hideM h4
  clear h3 h4
  generalize hn3 : L3.length = n3 at *
  generalize hn4 : L4.length = n4 at *
  go_enter Tryd.func46, Tryd.ntmps46
  go_wp2_with fail
  go_loopw [3, 11] (fun t i wr => ∃ j : Nat, j ≤ 2 ∧ i = .int .i64 j ∧ t = .int .i64 ((if j = 0 then 0 else if j = 1 then n3 else n3 + n4 : Nat) : Int) ∧ wr = u) (fun _ i _ => 2 - (RowKit.intOf i).toNat)
  case atStart => exact ⟨0, by omega, rfl, rfl, rfl⟩
  case round =>
    obtain ⟨j, hj, rfl, rfl, rfl⟩ := hrel
    rcases (by omega : j = 0 ∨ j = 1 ∨ j = 2) with rfl | rfl | rfl
    · go_wp2
      go_roundw
      case rel => exact ⟨1, by omega, by go_num, by go_num, trivial⟩
      case measure => simp [RowKit.intOf]
    · go_wp2
      go_roundw
      case rel => exact ⟨2, by omega, by go_num, by go_num, trivial⟩
      case measure => simp [RowKit.intOf]
    · go_wp2_with fail
      have HG := hideM (pGrow (n3 + n4) (by omega) wr)
      rw [show (((n3 + n4 : Nat)) : Int) = (n3 : Int) + (n4 : Int) by omega] at HG
      refine HG.out.mono ?_
      rintro e wg ⟨vg, rfl, hown, hbel⟩
      have HO : Hid (wg.ownsRow wr.heap.size 72 3 vg (upto L3 L4 0).length (limCells (upto L3 L4 0))) := hown
      have HB := hideM hbel
      clear HG hown hbel
      obtain ⟨ws, rfl⟩ : ∃ ws, ws = wr := ⟨_, rfl⟩
      go_wp2_with fail
      go_loopw [6, 27] (fun t i wr => ∃ j : Nat, j ≤ 2 ∧ i = .int .i64 j ∧ Hid (wr.ownsRow ws.heap.size 72 3 t (upto L3 L4 j).length (limCells (upto L3 L4 j))) ∧ Hid (Below ws.heap.size ws wr)) (fun _ i _ => 2 - (RowKit.intOf i).toNat)
      case atStart => exact ⟨0, by omega, rfl, HO, HB⟩
      case round =>
        obtain ⟨j, hj, rfl, HOW, HBW⟩ := hrel
        rcases (by omega : j = 0 ∨ j = 1 ∨ j = 2) with rfl | rfl | rfl
        · have q0 : wr.cell? ⟨b, 0, none⟩ = some (.slice o3 n3 c3) := cell_on HBW.out k0
          obtain ⟨i0, hi, hz0, hz1, hz2⟩ := info_parts limInfo
          have hsz := HBW.out.size
          have hul : (upto L3 L4 0).length ≤ 8192 := by show 0 ≤ _; omega
          have hup : Hid (upto L3 L4 1 = upto L3 L4 0 ++ L3) := rfl
          have hnl : Hid (L3.length = n3) := hn3
          have HRW := hideM (H3.out.imp fun _ _ _ _ => LimAt.on HBW.out)
          cases o3 with
          | none =>
            obtain rfl : c3 = 0 := z3 rfl
            have hnil : L3 = [] := row_none HRW.out
            have hn0 : n3 = 0 := by rw [← hnl.out, hnil]; rfl
            rw [hn0] at q0
            go_wp2_with (first | (at_builtin; refine wpList_append_own_none rfl _ _ 34 rfl ws.heap.size 72 i0 3 Tryd.underlying34 hi _ _ _ rfl HOW.out rfl ?_))
            go_wp2
            go_roundw
            case rel => exact ⟨_, _, _, ⟨1, by omega, rfl, HOW⟩, rfl, rfl, rfl⟩
            case measure => simp [RowKit.intOf]
          | some ad =>
            have HAT := hideM (row_at HRW.out)
            go_wp2_with (first | (at_builtin; refine wpList_append_own _ rfl _ _ 34 rfl ws.heap.size 72 i0 _ 3 24 Tryd.underlying34 hi hz0 hz1 hz2 rfl (by decide) _ _ _ rfl HOW.out ad n3 c3 (limCells L3) rfl ?c0 HAT.out ?c2 ?c3 ?c4 ?c5 ?_))
            case c0 => rw [limCells_len, hnl.out]
            case c2 => exact limCells_one L3
            case c3 => unfold maxLen; omega
            case c4 => omega
            case c5 => omega
            intro v' w1 hown' hgrow _
            have HB2 := hideM (below_grown HBW.out HOW.out hgrow (by omega))
            have HO2 : Hid (w1.ownsRow ws.heap.size 72 3 v' (upto L3 L4 1).length (limCells (upto L3 L4 1))) := by
              rw [hup.out, limCells_app, List.length_append, hnl.out]; exact hown'
            clear hown' hgrow
            go_wp2
            go_roundw
            case rel => exact ⟨1, by omega, by go_num, HO2, HB2⟩
            case measure => simp [RowKit.intOf]
        · have q0 : wr.cell? ⟨b, 1, none⟩ = some (.slice o4 n4 c4) := cell_on HBW.out k1
          obtain ⟨i0, hi, hz0, hz1, hz2⟩ := info_parts limInfo
          have hsz := HBW.out.size
          have hul : (upto L3 L4 1).length ≤ 8192 := by show L3.length ≤ _; omega
          have hup : Hid (upto L3 L4 2 = upto L3 L4 1 ++ L4) := rfl
          have hnl : Hid (L4.length = n4) := hn4
          have HRW := hideM (H4.out.imp fun _ _ _ _ => LimAt.on HBW.out)
          cases o4 with
          | none =>
            obtain rfl : c4 = 0 := z4 rfl
            have hnil : L4 = [] := row_none HRW.out
            have hn0 : n4 = 0 := by rw [← hnl.out, hnil]; rfl
            rw [hn0] at q0
            go_wp2_with (first | (at_builtin; refine wpList_append_own_none rfl _ _ 34 rfl ws.heap.size 72 i0 3 Tryd.underlying34 hi _ _ _ rfl HOW.out rfl ?_))
            go_wp2
            go_roundw
            case rel => exact ⟨_, _, _, ⟨2, by omega, rfl, by show Hid (World.ownsRow _ _ _ _ _ (L3 ++ []).length (limCells (L3 ++ []))); rw [List.append_nil]; exact HOW⟩, rfl, rfl, rfl⟩
            case measure => simp [RowKit.intOf]
          | some ad =>
            have HAT := hideM (row_at HRW.out)
            go_wp2_with (first | (at_builtin; refine wpList_append_own _ rfl _ _ 34 rfl ws.heap.size 72 i0 _ 3 24 Tryd.underlying34 hi hz0 hz1 hz2 rfl (by decide) _ _ _ rfl HOW.out ad n4 c4 (limCells L4) rfl ?c0 HAT.out ?c2 ?c3 ?c4 ?c5 ?_))
            case c0 => rw [limCells_len, hnl.out]
            case c2 => exact limCells_one L4
            case c3 => unfold maxLen; omega
            case c4 => omega
            case c5 => omega
            intro v' w1 hown' hgrow _
            have HB2 := hideM (below_grown HBW.out HOW.out hgrow (by omega))
            have HO2 : Hid (w1.ownsRow ws.heap.size 72 3 v' (upto L3 L4 2).length (limCells (upto L3 L4 2))) := by
              rw [hup.out, limCells_app, List.length_append, hnl.out]; exact hown'
            clear hown' hgrow
            go_wp2
            go_roundw
            case rel => exact ⟨2, by omega, by go_num, HO2, HB2⟩
            case measure => simp [RowKit.intOf]
        · have hfin := own_row (l := L3 ++ L4) HOW.out (by rw [List.length_append]; omega)
          obtain ⟨of, cf, rfl, hrow⟩ := hfin
          have HRF := hideM hrow
          clear hrow
          go_wp2
          go_ret
          exact ⟨⟨of, cf, rfl, HRF.out⟩, HBW.out⟩
end Go.Proofs.YtlpnoelolkbmmaaDoor

namespace Go.Proofs.YtlpnoelolkbmmaaDoor
open Go.RowKit Rep
set_option linter.unusedVariables false
namespace Rep
structure ModOk {d : Nat} (v3 v4 : Value) (m : Mod d) : Prop where
  deep : d ≤ 4611686018427387904
  datas : ∀ x ∈ m.datas, x.bytes.size ≤ 9223372036854775807
  texts : Texts m
  tables : ∀ n c, v3 = .slice none n c → c = 0
  mems : ∀ n c, v4 = .slice none n c → c = 0
theorem fewM_lens {d : Nat} {m : Mod d} (h : fewM m = true) : m.tables.length ≤ 4096 ∧ m.mems.length ≤ 4096 := by
  unfold fewM at h
  rw [Bool.and_eq_true] at h
  have h1 := List.all_eq_true.1 h.1
  have a := h1 (len m.tables) (by simp)
  have b := h1 (len m.mems) (by simp)
  have a := of_decide_eq_true (p := ((m.tables.length : Int) ≤ 4096)) a
  have b := of_decide_eq_true (p := ((m.mems.length : Int) ≤ 4096)) b
  omega
end Rep
theorem pCheckC {I : World → Prop} (C : WastC I) (d : Nat) (v0 v1 v2 v3 v4 v5 v6 v7 v8 v9 : Value) (m : Mod d) (w : World) (hI : I w) (hM : ModAt w d v0 v1 v2 v3 v4 v5 v6 v7 v8 v9 m) (hO : ModOk v3 v4 m) :
    Calls Tryd.prog 12 #[.agg #[v0, v1, v2, v3, v4, v5, v6, v7, v8, v9]] w fun e w' => e = .returned (.int .i64 (chk m)) ∧ Below w.heap.size w w' := by
  refine pCheck C.toFormC d hO.deep v0 v1 v2 v3 v4 v5 v6 v7 v8 v9 m w hI hM hO.datas fun hf w' hb => ?_
  have hl := fewM_lens hf
  have hM' := hM.on hb
  obtain ⟨o3, c3, e3⟩ := Row.len hM'.tables
  obtain ⟨o4, c4, e4⟩ := Row.len hM'.mems
  refine pneedShapes C d v0 v1 v2 v3 v4 v5 v6 v7 v8 v9 m w' (C.keep hb hI) hM' hO.texts fun u b hu k0 k1 => ?_
  have hM2 := hM'.on hu
  have r3 := hM2.tables
  have r4 := hM2.mems
  rw [e3] at r3 k0
  rw [e4] at r4 k1
  refine pConcat m.tables m.mems o3 o4 c3 c4 u b r3 r4 (fun h => ?_) (fun h => ?_) k0 k1 hl.1 hl.2
  · subst h; exact hO.tables _ _ e3
  · subst h; exact hO.mems _ _ e4
theorem wastC {I : World → Prop} (C : ReckC I) (hU : ∀ w, I w → UtfI w) : WastC I :=
  { toFormC := formC C, name := fun s w h hs => pName s w hs (hU w h) }
theorem utfI_on {w w' : World} (hb : Below w.heap.size w w') (h : UtfI w) : UtfI w' := Utf8Tabs_below h hb
end Go.Proofs.YtlpnoelolkbmmaaDoor

namespace Go.Proofs.YtlpnoelolkbmmaaDoor
open Go.RowKit Rep Val
set_option linter.unusedVariables false
namespace Val
def mCells (bT bF : Nat) : Array Value := #[.slice (some ⟨bT, 0, none⟩) 1 1, .slice none 0 0, .slice (some ⟨bF, 0, none⟩) 1 1, .slice none 0 0, .slice none 0 0, .slice none 0 0, .slice none 0 0, .slice none 0 0, .slice none 0 0, .slice none 0 0]
structure MD (w : World) (bT bF : Nat) (rv bv : Value) : Prop where
  t0 : w.cell? ⟨bT, 0, none⟩ = some (.slice none 0 0)
  t1 : w.cell? ⟨bT, 1, none⟩ = some rv
  f0 : w.cell? ⟨bF, 0, none⟩ = some (.int .i64 0)
  f1 : w.cell? ⟨bF, 1, none⟩ = some (.slice none 0 0)
  f2 : w.cell? ⟨bF, 2, none⟩ = some bv
theorem MD.on {w w' : World} {bT bF : Nat} {rv bv : Value} (h : MD w bT bF rv bv) (hb : Below w.heap.size w w') : MD w' bT bF rv bv :=
  ⟨cell_on hb h.t0, cell_on hb h.t1, cell_on hb h.f0, cell_on hb h.f1, cell_on hb h.f2⟩
theorem m_cell (w : World) (bT bF j : Nat) (t : TypeId) (v : Value) (h : (mCells bT bF)[j]? = some v) : (w.alloc (.cells (mCells bT bF) t)).cell? ⟨w.heap.size, j, none⟩ = some v := by
  unfold World.cell?; rw [World.alloc_heap_new]; exact h
end Val
set_option maxRecDepth 100000 in
set_option maxHeartbeats 4000000 in
theorem vTypes (w : World) (bT bF : Nat) (oR : Option Addr) (nR kR : Nat) (oB : Option Addr) (nB kB : Nat) (h : MD w bT bF (.slice oR nR kR) (.slice oB nB kB)) (hn : nR ≤ 1) :
    Calls Tryd.prog 14 #[.agg (mCells bT bF)] w fun e w' => e = .returned (.tuple #[]) ∧ Below w.heap.size w w' := by
  obtain ⟨w1, hw1⟩ : ∃ w1, w1 = w.alloc (.cells (mCells bT bF) 40) := ⟨_, rfl⟩
  have hb1 : Below w.heap.size w w1 := by rw [hw1]; exact new_on' _ _
  have HB1 := hideR hb1
  have c0 : w1.cell? ⟨w.heap.size, 0, none⟩ = some (.slice (some ⟨bT, 0, none⟩) 1 1) := by rw [hw1]; exact m_cell w bT bF 0 _ _ rfl
  have c1 : w1.cell? ⟨w.heap.size, 1, none⟩ = some (.slice none 0 0) := by rw [hw1]; exact m_cell w bT bF 1 _ _ rfl
  have c2 : w1.cell? ⟨w.heap.size, 2, none⟩ = some (.slice (some ⟨bF, 0, none⟩) 1 1) := by rw [hw1]; exact m_cell w bT bF 2 _ _ rfl
  have HM := hideR (h.on hb1)
  have C0 := hideR c0
  have C1 := hideR c1
  have C2 := hideR c2
  have HE := hideR hw1
  unfold mCells
  clear h hb1 hw1 c1 c2
  go_enter Tryd.func14, Tryd.ntmps14
  go_wp2_with fail
  go_loopw [11] (fun t wr => ∃ k : Nat, k ≤ 1 ∧ t = .int .i64 k ∧ Hid (Below w1.heap.size w1 wr)) (fun t _ => 1 - (RowKit.intOf t).toNat)
  case atStart => exact ⟨0, by omega, rfl, hideR (below_eq HE.out.symm)⟩
  case round =>
    obtain ⟨k, hk, rfl, HR⟩ := hrel
    have hc : k = 0 ∨ k = 1 := by omega
    rcases hc with rfl | rfl
    · have t0 := cell_on HR.out HM.out.t0
      have t1 := cell_on HR.out HM.out.t1
      go_wp2_with fail
      rw [show decide ((nR : Int) ≤ 1) = true from decide_eq_true (by omega)]
      refine (vNeedY _ _).mono ?_
      rintro e u ⟨rfl, hu⟩
      obtain rfl := hu.symm
      go_wp2
      go_roundw
      case rel => exact ⟨1, by omega, rfl, hideR (below_go' HR.out (new_on' _ _))⟩
      case measure => simp [RowKit.intOf]
    · have q1 := cell_on HR.out C1.out
      obtain ⟨wa, hwa⟩ : ∃ wa, wa = wr := ⟨_, rfl⟩
      rw [← hwa] at HR q1
      rw [← hwa]
      clear hwa
      go_wp2_with fail
      go_loopw [24] (fun t wq => t = .int .i64 0 ∧ wq = wa) (fun _ _ => 0)
      case atStart => exact ⟨rfl, rfl⟩
      case round =>
        obtain ⟨rfl, hwq⟩ := hrel
        obtain rfl := hwq.symm
        have q2 := cell_on HR.out C2.out
        go_wp2_with fail
        go_loopw [39] (fun t wz => ∃ k : Nat, k ≤ 1 ∧ t = .int .i64 k ∧ Hid (Below w1.heap.size w1 wz)) (fun t _ => 1 - (RowKit.intOf t).toNat)
        case atStart => exact ⟨0, by omega, rfl, HR⟩
        case round =>
          obtain ⟨k, hk, rfl, HZ⟩ := hrel
          have hc : k = 0 ∨ k = 1 := by omega
          rcases hc with rfl | rfl
          · have f0 := cell_on HZ.out HM.out.f0
            have f1 := cell_on HZ.out HM.out.f1
            have f2 := cell_on HZ.out HM.out.f2
            have q0 := cell_on HZ.out C0.out
            have hzz : ∀ o, (wr.alloc o).cell? ⟨w.heap.size, 0, none⟩ = some (.slice (some ⟨bT, 0, none⟩) 1 1) := fun o => cell_on (new_on' _ o) q0
            go_wp2_with fail
            refine (vNeedY _ _).mono ?_
            rintro e u ⟨rfl, hu⟩
            obtain rfl := hu.symm
            go_wp2
            go_roundw
            case rel => exact ⟨1, by omega, rfl, hideR (below_go' HZ.out (new_on' _ _))⟩
            case measure => simp [RowKit.intOf]
          · go_wp2
            go_end0
            exact ⟨rfl, below_go' HB1.out HZ.out⟩
end Go.Proofs.YtlpnoelolkbmmaaDoor

namespace Go.Proofs.YtlpnoelolkbmmaaDoor
open Go.RowKit Rep
set_option linter.unusedVariables false
theorem reckC : ReckC UtfI := ⟨utfI_on, fun op w _ => (preckons op w).mono fun e w' ⟨h1, h2⟩ => ⟨h1, by rw [h2]; exact Below.refl _ _⟩⟩
theorem theC : WastC UtfI := wastC reckC fun _ h => h
end Go.Proofs.YtlpnoelolkbmmaaDoor

namespace Go.Proofs.YtlpnoelolkbmmaaDoor
open Go.RowKit Rep Val
set_option linter.unusedVariables false
namespace Val
def mOf {d : Nat} (rs : List Int) (l : IL d) : Mod d := ⟨[⟨[], rs⟩], [], [⟨0, [], l⟩], [], [], [], [], [], [], []⟩
theorem rnil {α : Type} {k : Nat} {f : Nat → Nat → α → Prop} : Row k f (.slice none 0 0) [] := ⟨by simp, .inl ⟨rfl, none, 0, rfl⟩⟩
theorem rone {α : Type} {k : Nat} {f : Nat → Nat → α → Prop} {b : Nat} {x : α} (h : f b 0 x) : Row k f (.slice (some ⟨b, 0, none⟩) 1 1) [x] := ⟨by simp, .inr ⟨b, 0, 1, rfl, fun i y hi => by
    match i, hi with
    | 0, hi => obtain rfl : x = y := by simpa using hi
               rw [Nat.zero_mul]; exact h
    | i + 1, hi => simp at hi⟩⟩
theorem MD.mod {w : World} {bT bF d : Nat} {rv bv : Value} {rs : List Int} {l : IL d} (h : MD w bT bF rv bv) (hr : Ints w rv rs) (hA : At w d bv l) : ModAt w d (.slice (some ⟨bT, 0, none⟩) 1 1) (.slice none 0 0) (.slice (some ⟨bF, 0, none⟩) 1 1) (.slice none 0 0) (.slice none 0 0) (.slice none 0 0) (.slice none 0 0) (.slice none 0 0) (.slice none 0 0) (.slice none 0 0) (mOf rs l) :=
  ⟨rone ⟨⟨_, h.t0, rnil⟩, ⟨_, h.t1, hr⟩⟩, rnil, rone ⟨h.f0, ⟨_, h.f1, rnil⟩, ⟨_, h.f2, hA⟩⟩, rnil, rnil, rnil, rnil, rnil, rnil, rnil⟩
theorem mOf_ok {d : Nat} (rs : List Int) (l : IL d) (h : d ≤ 4611686018427387904) : ModOk (.slice none 0 0) (.slice none 0 0) (mOf rs l) := ⟨h, by simp [mOf], ⟨by simp [mOf], by simp [mOf]⟩, by simp, by simp⟩
end Val
set_option maxRecDepth 100000 in
set_option maxHeartbeats 8000000 in
theorem vModule {d : Nat} (w : World) (bT bF : Nat) (rv bv : Value) (rs : List Int) (l : IL d) (hI : UtfI w) (h : MD w bT bF rv bv) (hr : Ints w rv rs) (hA : At w d bv l) (hd : d ≤ 4611686018427387904) (hk : chk (mOf rs l) = 0) (hn : rs.length ≤ 1) :
    Calls Tryd.prog 10 #[.agg (mCells bT bF)] w fun e w' => e = .returned (.tuple #[]) ∧ Below w.heap.size w w' := by
  obtain ⟨oR, kR, rfl⟩ := Row.len (show Row 1 _ rv rs from hr)
  obtain ⟨oB, kB, rfl⟩ := At.len d _ _ hA
  obtain ⟨w1, hw1⟩ : ∃ w1, w1 = w.alloc (.cells (mCells bT bF) 40) := ⟨_, rfl⟩
  have hb1 : Below w.heap.size w w1 := by rw [hw1]; exact new_on' _ _
  have HB1 := hideR hb1
  have C0 := hideR (show w1.cell? ⟨w.heap.size, 0, none⟩ = some (.slice (some ⟨bT, 0, none⟩) 1 1) by rw [hw1]; exact m_cell w bT bF 0 _ _ rfl)
  have C1 := hideR (show w1.cell? ⟨w.heap.size, 1, none⟩ = some (.slice none 0 0) by rw [hw1]; exact m_cell w bT bF 1 _ _ rfl)
  have C2 := hideR (show w1.cell? ⟨w.heap.size, 2, none⟩ = some (.slice (some ⟨bF, 0, none⟩) 1 1) by rw [hw1]; exact m_cell w bT bF 2 _ _ rfl)
  have C3 := hideR (show w1.cell? ⟨w.heap.size, 3, none⟩ = some (.slice none 0 0) by rw [hw1]; exact m_cell w bT bF 3 _ _ rfl)
  have C4 := hideR (show w1.cell? ⟨w.heap.size, 4, none⟩ = some (.slice none 0 0) by rw [hw1]; exact m_cell w bT bF 4 _ _ rfl)
  have C5 := hideR (show w1.cell? ⟨w.heap.size, 5, none⟩ = some (.slice none 0 0) by rw [hw1]; exact m_cell w bT bF 5 _ _ rfl)
  have C6 := hideR (show w1.cell? ⟨w.heap.size, 6, none⟩ = some (.slice none 0 0) by rw [hw1]; exact m_cell w bT bF 6 _ _ rfl)
  have C7 := hideR (show w1.cell? ⟨w.heap.size, 7, none⟩ = some (.slice none 0 0) by rw [hw1]; exact m_cell w bT bF 7 _ _ rfl)
  have C8 := hideR (show w1.cell? ⟨w.heap.size, 8, none⟩ = some (.slice none 0 0) by rw [hw1]; exact m_cell w bT bF 8 _ _ rfl)
  have C9 := hideR (show w1.cell? ⟨w.heap.size, 9, none⟩ = some (.slice none 0 0) by rw [hw1]; exact m_cell w bT bF 9 _ _ rfl)
  have HM := hideR (h.on hb1)
  have HC := hideR (pCheckC theC d _ _ _ _ _ _ _ _ _ _ (mOf rs l) w1 (utfI_on hb1 hI) ((h.mod hr hA).on hb1) (mOf_ok rs l hd))
  rw [hk] at HC
  unfold mCells at hw1
  have HE := hideR hw1
  have HN := hideR hn
  unfold mCells
  clear h hb1 hw1 hr hA hk hn hI
  generalize rs.length = nR at *
  generalize size d l = nB at *
  go_enter Tryd.func10, Tryd.ntmps10
  go_wp2_with fail
  rw [← HE.out]
  refine HC.out.mono ?_
  rintro e u0 ⟨rfl, hu⟩
  have H0 := hideR hu
  clear hu HC
  go_wp2_with fail
  refine (vNeedY _ _).mono ?_
  rintro e u ⟨rfl, hu⟩
  obtain rfl := hu.symm
  have q0 := cell_on H0.out C0.out
  have q1 := cell_on H0.out C1.out
  have q2 := cell_on H0.out C2.out
  have q3 := cell_on H0.out C3.out
  have q4 := cell_on H0.out C4.out
  have q5 := cell_on H0.out C5.out
  have q6 := cell_on H0.out C6.out
  have q7 := cell_on H0.out C7.out
  have q8 := cell_on H0.out C8.out
  have q9 := cell_on H0.out C9.out
  go_wp2_with fail
  refine (vTypes u0 bT bF oR nR kR oB nB kB (HM.out.on H0.out) HN.out).mono ?_
  rintro e u1 ⟨rfl, hu⟩
  have H1 := hideR (below_go' H0.out hu)
  clear hu q0 q1 q2 q3 q4 q5 q6 q7 q8 q9
  have q0 := cell_on H1.out C0.out
  have q1 := cell_on H1.out C1.out
  have q2 := cell_on H1.out C2.out
  have q3 := cell_on H1.out C3.out
  have q4 := cell_on H1.out C4.out
  have q5 := cell_on H1.out C5.out
  have q6 := cell_on H1.out C6.out
  have q7 := cell_on H1.out C7.out
  have q8 := cell_on H1.out C8.out
  have q9 := cell_on H1.out C9.out
  go_wp2_with fail
  refine (vLimits _ _ _ _ _ _ _ _ _ _ _ _ _ _ _ _ _ _ _ _ _).mono ?_
  rintro e u2 ⟨rfl, hu⟩
  have H2 := hideR (below_go' H1.out hu)
  clear hu q0 q1 q2 q3 q4 q5 q6 q7 q8 q9
  have q0 := cell_on H2.out C0.out
  have q1 := cell_on H2.out C1.out
  have q2 := cell_on H2.out C2.out
  have q3 := cell_on H2.out C3.out
  have q4 := cell_on H2.out C4.out
  have q5 := cell_on H2.out C5.out
  have q6 := cell_on H2.out C6.out
  have q7 := cell_on H2.out C7.out
  have q8 := cell_on H2.out C8.out
  have q9 := cell_on H2.out C9.out
  go_wp2_with fail
  refine (vGlobals _ _ _ _ _ _ _ _ _ _ _ _ _ _ _ _ _ _ _ _ _).mono ?_
  rintro e u3 ⟨rfl, hu⟩
  have H3 := hideR (below_go' H2.out hu)
  clear hu q0 q1 q2 q3 q4 q5 q6 q7 q8 q9
  have q0 := cell_on H3.out C0.out
  have q1 := cell_on H3.out C1.out
  have q2 := cell_on H3.out C2.out
  have q3 := cell_on H3.out C3.out
  have q4 := cell_on H3.out C4.out
  have q5 := cell_on H3.out C5.out
  have q6 := cell_on H3.out C6.out
  have q7 := cell_on H3.out C7.out
  have q8 := cell_on H3.out C8.out
  have q9 := cell_on H3.out C9.out
  go_wp2_with fail
  refine (vExports _ _ _ _ _ _ _ _ _ _ _ _ _ _ _ _ _ _ _ _ _).mono ?_
  rintro e u4 ⟨rfl, hu⟩
  have H4 := hideR (below_go' H3.out hu)
  clear hu q0 q1 q2 q3 q4 q5 q6 q7 q8 q9
  have q0 := cell_on H4.out C0.out
  have q1 := cell_on H4.out C1.out
  have q2 := cell_on H4.out C2.out
  have q3 := cell_on H4.out C3.out
  have q4 := cell_on H4.out C4.out
  have q5 := cell_on H4.out C5.out
  have q6 := cell_on H4.out C6.out
  have q7 := cell_on H4.out C7.out
  have q8 := cell_on H4.out C8.out
  have q9 := cell_on H4.out C9.out
  go_wp2_with fail
  refine (vStart _ _ _ _ _ _ _ _ _ _ _ _ _ _ _ _ _ _ _ _ _).mono ?_
  rintro e u5 ⟨rfl, hu⟩
  have H5 := hideR (below_go' H4.out hu)
  clear hu q0 q1 q2 q3 q4 q5 q6 q7 q8 q9
  have q0 := cell_on H5.out C0.out
  have q1 := cell_on H5.out C1.out
  have q2 := cell_on H5.out C2.out
  have q3 := cell_on H5.out C3.out
  have q4 := cell_on H5.out C4.out
  have q5 := cell_on H5.out C5.out
  have q6 := cell_on H5.out C6.out
  have q7 := cell_on H5.out C7.out
  have q8 := cell_on H5.out C8.out
  have q9 := cell_on H5.out C9.out
  go_wp2_with fail
  refine (vElems _ _ _ _ _ _ _ _ _ _ _ _ _ _ _ _ _ _ _ _ _).mono ?_
  rintro e u6 ⟨rfl, hu⟩
  have H6 := hideR (below_go' H5.out hu)
  clear hu q0 q1 q2 q3 q4 q5 q6 q7 q8 q9
  have q0 := cell_on H6.out C0.out
  have q1 := cell_on H6.out C1.out
  have q2 := cell_on H6.out C2.out
  have q3 := cell_on H6.out C3.out
  have q4 := cell_on H6.out C4.out
  have q5 := cell_on H6.out C5.out
  have q6 := cell_on H6.out C6.out
  have q7 := cell_on H6.out C7.out
  have q8 := cell_on H6.out C8.out
  have q9 := cell_on H6.out C9.out
  go_wp2_with fail
  refine (vDatas _ _ _ _ _ _ _ _ _ _ _ _ _ _ _ _ _ _ _ _ _).mono ?_
  rintro e u7 ⟨rfl, hu⟩
  have H7 := hideR (below_go' H6.out hu)
  clear hu q0 q1 q2 q3 q4 q5 q6 q7 q8 q9
  go_wp2
  go_end0
  exact ⟨rfl, below_go' HB1.out H7.out⟩
end Go.Proofs.YtlpnoelolkbmmaaDoor

namespace Go.Proofs.YtlpnoelolkbmmaaDoor
open Go.RowKit Rep Val
set_option linter.unusedVariables false
theorem vassert_yes (k : Int) (w : World) : (Instr.typeAssert (.iface 41 (.int .i64 k)) 20 41 true).run Tryd.prog w = .ok (.tuple #[.int .i64 k, .bool true]) w := by
  kernel_rfl
theorem vassert_no (w : World) : (Instr.typeAssert .nilIface 20 41 true).run Tryd.prog w = .ok (.tuple #[.int .i64 0, .bool false]) w := by
  kernel_rfl
theorem vCatch (p : Addr) (x : Value) (k : Int) (older : List PanicEntry) (w : World) (hc : w.cell? p = some x) (hz : w.frozen? p = false) :
    CallsD Tryd.prog 9 #[.pointer (some p)] (.panicking ({ v := .iface 41 (.int .i64 k), recovered := false } :: older)) w fun e u' w' =>
      e = .returned (.tuple #[]) ∧ u' = .panicking ({ v := .iface 41 (.int .i64 k), recovered := true } :: older) ∧ w' = w.setCell p (.int .i64 k) := by
  refine callsD_of_wpS Tryd.func9 rfl fun c₀ cs hu => ?_
  apply wpS_seq
  apply wpS_region
  simp [wpOpsS, go_sem, recoverD, hu, Tryd.ntmps9, Exit.thenS, vassert_yes]
  apply wpS_seq
  apply wpS_region
  simp [wpOpsS, go_sem, Exit.thenS]
  refine wpS_cond (t := true) (by simp [Act.eval, Array.replicate]) ?_
  simp only [if_true]
  apply wpS_region
  simp [wpOpsS, go_sem, hc, hz, bodyPostS, results, Tryd.results9]
theorem vIdle (p : Addr) (w : World) :
    CallsD Tryd.prog 9 #[.pointer (some p)] .returning w fun e u' w' => e = .returned (.tuple #[]) ∧ u' = .returning ∧ w' = w := by
  refine callsD_of_wpS Tryd.func9 rfl fun c₀ cs hu => ?_
  apply wpS_seq
  apply wpS_region
  simp [wpOpsS, go_sem, recoverD, hu, Tryd.ntmps9, Exit.thenS, vassert_no]
  apply wpS_seq
  apply wpS_region
  simp [wpOpsS, go_sem, Exit.thenS]
  refine wpS_cond (t := false) (by simp [Act.eval, Array.replicate]) ?_
  simp only [Bool.false_eq_true, if_false]
  refine wpS_of_wp (wp_skip ?_)
  cases c₀
  simp_all [bodyPostS, results, Tryd.results9]
namespace Val
theorem ints_now {w w' : World} {v : Value} {l : List Int} (hb : Below w.heap.size w w') (h : IntsS w (fun k => k < w.heap.size) v l) : IntsS w' (fun k => k < w'.heap.size) v l := h.keep fun k hk => ⟨Nat.lt_of_lt_of_le hk hb.size, hb.block k hk⟩
theorem at_now {d : Nat} {w w' : World} {v : Value} {l : IL d} (hb : Below w.heap.size w w') (h : AtS w (fun k => k < w.heap.size) d v l) : AtS w' (fun k => k < w'.heap.size) d v l := AtS.keep (fun k hk => ⟨Nat.lt_of_lt_of_le hk hb.size, hb.block k hk⟩) d v l h
end Val
theorem vBodyM {d : Nat} (w : World) (bT bF : Nat) (rv bv : Value) (rs : List Int) (l : List (Ins (IL d))) (h : MD w bT bF rv bv) (hr : IntsS w (fun k => k < w.heap.size) rv rs) (hA : AtS w (fun k => k < w.heap.size) (d + 1) bv l)
    (hsm : ∀ x ∈ l, SmI 1 x) (hrl : rs.length ≤ 100000) (hll : l.length ≤ 100000000) :
    Calls Tryd.prog 11 #[.agg (mCells bT bF), .agg #[.int .i64 0, .slice none 0 0, bv]] w fun e w' => (match wnP stpS l [] ⟨rs, rs, 0, false⟩ with | .ok _ => e = .returned (.tuple #[]) | .error z => e = .panicked (gave z)) ∧ Below w.heap.size w w' :=
  vBody w (fun j => match j with | 0 => .slice (some ⟨bT, 0, none⟩) 1 1 | 2 => .slice (some ⟨bF, 0, none⟩) 1 1 | _ => .slice none 0 0) 0 bT 0 1 1 (.slice none 0 0) rv (.slice none 0 0) bv rs l rfl
    (fun j hj => by split <;> exact ⟨_, _, _, rfl⟩) (by omega) h.t0 h.t1 ⟨_, _, rfl⟩ ⟨_, _, rfl⟩ hr hA hsm hrl hll

set_option maxRecDepth 100000 in
set_option maxHeartbeats 8000000 in
theorem vWhere {d : Nat} (w : World) (bT bF : Nat) (rv bv : Value) (rs : List Int) (l : List (Ins (IL d))) (hI : UtfI w) (h : MD w bT bF rv bv) (hr : IntsS w (fun k => k < w.heap.size) rv rs) (hA : AtS w (fun k => k < w.heap.size) (d + 1) bv l)
    (hsm : ∀ x ∈ l, SmI 1 x) (hll : l.length ≤ 100000000) (hd : d + 1 ≤ 4611686018427387904) (hk : chk (mOf (d := d + 1) rs l) = 0) (hn : rs.length ≤ 1) :
    Calls Tryd.prog 7 #[.agg (mCells bT bF)] w fun e w' => (match wnP stpS l [] ⟨rs, rs, 0, false⟩ with | .ok _ => e = .returned (.tuple #[.int .i64 (-1), .int .i64 0]) | .error z => e = .returned (.tuple #[.int .i64 0, .int .i64 z])) ∧ Below w.heap.size w w' := by
  obtain ⟨X, hX⟩ : ∃ X, X = wnP stpS l [] ⟨rs, rs, 0, false⟩ := ⟨_, rfl⟩
  rw [← hX]
  obtain ⟨w1, hw1⟩ : ∃ w1, w1 = w.alloc (.cells (mCells bT bF) 40) := ⟨_, rfl⟩
  obtain ⟨wb, hwb⟩ : ∃ wb, wb = w1.alloc (.cells #[.int .i64 0] 41) := ⟨_, rfl⟩
  have s1 : w1.heap.size = w.heap.size + 1 := by rw [hw1]; simp
  have hb0 : Below w.heap.size w w1 := by rw [hw1]; exact new_on' _ _
  have hb2 : Below w1.heap.size w1 wb := by rw [hwb]; exact new_on' _ _
  have hb1 : Below w.heap.size w wb := below_go' hb0 hb2
  have hbk : wb.heap[w.heap.size + 1]? = some (.cells #[.int .i64 0] 41 (0, 0)) := by rw [hwb, ← s1]; exact World.alloc_heap_new w1 _
  have HB1 := hideR hb1
  have HK := hideR hbk
  have C0 := hideR (show wb.cell? ⟨w.heap.size, 0, none⟩ = some (.slice (some ⟨bT, 0, none⟩) 1 1) from cell_on hb2 (by rw [hw1]; exact m_cell w bT bF 0 _ _ rfl))
  have C1 := hideR (show wb.cell? ⟨w.heap.size, 1, none⟩ = some (.slice none 0 0) from cell_on hb2 (by rw [hw1]; exact m_cell w bT bF 1 _ _ rfl))
  have C2 := hideR (show wb.cell? ⟨w.heap.size, 2, none⟩ = some (.slice (some ⟨bF, 0, none⟩) 1 1) from cell_on hb2 (by rw [hw1]; exact m_cell w bT bF 2 _ _ rfl))
  have C3 := hideR (show wb.cell? ⟨w.heap.size, 3, none⟩ = some (.slice none 0 0) from cell_on hb2 (by rw [hw1]; exact m_cell w bT bF 3 _ _ rfl))
  have C4 := hideR (show wb.cell? ⟨w.heap.size, 4, none⟩ = some (.slice none 0 0) from cell_on hb2 (by rw [hw1]; exact m_cell w bT bF 4 _ _ rfl))
  have C5 := hideR (show wb.cell? ⟨w.heap.size, 5, none⟩ = some (.slice none 0 0) from cell_on hb2 (by rw [hw1]; exact m_cell w bT bF 5 _ _ rfl))
  have C6 := hideR (show wb.cell? ⟨w.heap.size, 6, none⟩ = some (.slice none 0 0) from cell_on hb2 (by rw [hw1]; exact m_cell w bT bF 6 _ _ rfl))
  have C7 := hideR (show wb.cell? ⟨w.heap.size, 7, none⟩ = some (.slice none 0 0) from cell_on hb2 (by rw [hw1]; exact m_cell w bT bF 7 _ _ rfl))
  have C8 := hideR (show wb.cell? ⟨w.heap.size, 8, none⟩ = some (.slice none 0 0) from cell_on hb2 (by rw [hw1]; exact m_cell w bT bF 8 _ _ rfl))
  have C9 := hideR (show wb.cell? ⟨w.heap.size, 9, none⟩ = some (.slice none 0 0) from cell_on hb2 (by rw [hw1]; exact m_cell w bT bF 9 _ _ rfl))
  have HM := hideR (h.on hb1)
  have HC := hideR (vModule (d := d + 1) wb bT bF rv bv rs l (utfI_on hb1 hI) (h.on hb1) (ints_now hb1 hr).at (AtS.at _ _ _ (at_now hb1 hA)) hd hk hn)
  have HT := hideR fun (u : World) (hu : Below wb.heap.size wb u) => vBodyM u bT bF rv bv rs l ((h.on hb1).on hu) (ints_now hu (ints_now hb1 hr)) (at_now hu (at_now hb1 hA)) hsm (by omega) hll
  rw [← hX] at HT
  obtain ⟨oB, kB, rfl⟩ := Row.len hA
  obtain ⟨oR, kR, rfl⟩ := Row.len (show Row 1 _ rv rs from hr)
  unfold mCells at hw1 HC HT
  rw [hw1] at hwb
  have HE := hideR hwb
  have HS : Hid (w.heap.size + 1 < wb.heap.size) := hideR (Array.getElem?_eq_some_iff.1 hbk).1
  unfold mCells
  clear h hb1 hb0 hb2 hw1 hwb hbk hr hA hk hn hI hX hsm hll s1
  generalize rs.length = nR at *
  generalize l.length = nB at *
  have hmf : ∀ (fn : Fn) (first cap : Array Value) (w : World), (Instr.makeFunc fn first cap).run Tryd.prog w = .ok (.func fn first cap) w := fun _ _ _ _ => rfl
  go_enter_defers Tryd.func7, Tryd.ntmps7
  go_upto_region 1 with fail
  rw [← HE.out]
  have q0 := C0.out
  have q1 := C1.out
  have q2 := C2.out
  have q3 := C3.out
  have q4 := C4.out
  have q5 := C5.out
  have q6 := C6.out
  have q7 := C7.out
  have q8 := C8.out
  have q9 := C9.out
  go_wp2_with fail
  refine HC.out.mono ?_
  rintro e u0 ⟨rfl, hu⟩
  have H0 := hideR hu
  clear hu HC q0 q1 q2 q3 q4 q5 q6 q7 q8 q9
  have q2 := cell_on H0.out C2.out
  go_wp2_with fail
  go_loopw [2, 12] (fun s t wr => ∃ k : Nat, k ≤ 1 ∧ t = .int .i64 k ∧ (∃ z : Int, s = .int .i64 z) ∧ Hid (Below wb.heap.size wb wr) ∧ Hid (k = 1 → ∃ r, X = .ok r)) (fun _ t _ => 1 - (RowKit.intOf t).toNat)
  case atStart => exact ⟨0, by omega, rfl, ⟨_, rfl⟩, H0, hideR (fun h => by omega)⟩
  case round =>
    obtain ⟨k, hk, rfl, ⟨z, rfl⟩, HR, HX⟩ := hrel
    have hc : k = 0 ∨ k = 1 := by omega
    rcases hc with rfl | rfl
    · have f0 := cell_on HR.out HM.out.f0
      have f1 := cell_on HR.out HM.out.f1
      have f2 := cell_on HR.out HM.out.f2
      have y0 : ∀ o, (wr.alloc o).cell? ⟨w.heap.size, 0, none⟩ = some (.slice (some ⟨bT, 0, none⟩) 1 1) := fun o => cell_on (below_go' HR.out (new_on' _ o)) C0.out
      have y1 : ∀ o, (wr.alloc o).cell? ⟨w.heap.size, 1, none⟩ = some (.slice none 0 0) := fun o => cell_on (below_go' HR.out (new_on' _ o)) C1.out
      have y2 : ∀ o, (wr.alloc o).cell? ⟨w.heap.size, 2, none⟩ = some (.slice (some ⟨bF, 0, none⟩) 1 1) := fun o => cell_on (below_go' HR.out (new_on' _ o)) C2.out
      have y3 : ∀ o, (wr.alloc o).cell? ⟨w.heap.size, 3, none⟩ = some (.slice none 0 0) := fun o => cell_on (below_go' HR.out (new_on' _ o)) C3.out
      have y4 : ∀ o, (wr.alloc o).cell? ⟨w.heap.size, 4, none⟩ = some (.slice none 0 0) := fun o => cell_on (below_go' HR.out (new_on' _ o)) C4.out
      have y5 : ∀ o, (wr.alloc o).cell? ⟨w.heap.size, 5, none⟩ = some (.slice none 0 0) := fun o => cell_on (below_go' HR.out (new_on' _ o)) C5.out
      have y6 : ∀ o, (wr.alloc o).cell? ⟨w.heap.size, 6, none⟩ = some (.slice none 0 0) := fun o => cell_on (below_go' HR.out (new_on' _ o)) C6.out
      have y7 : ∀ o, (wr.alloc o).cell? ⟨w.heap.size, 7, none⟩ = some (.slice none 0 0) := fun o => cell_on (below_go' HR.out (new_on' _ o)) C7.out
      have y8 : ∀ o, (wr.alloc o).cell? ⟨w.heap.size, 8, none⟩ = some (.slice none 0 0) := fun o => cell_on (below_go' HR.out (new_on' _ o)) C8.out
      have y9 : ∀ o, (wr.alloc o).cell? ⟨w.heap.size, 9, none⟩ = some (.slice none 0 0) := fun o => cell_on (below_go' HR.out (new_on' _ o)) C9.out
      go_wp2_with fail
      refine (HT.out _ (below_go' HR.out (new_on' _ _))).mono ?_
      rintro e u3 ⟨hx, hb3⟩
      have hbb : Below wb.heap.size wb u3 := below_go' (below_go' HR.out (new_on' _ _)) hb3
      have hbk : u3.heap[w.heap.size + 1]? = some (.cells #[.int .i64 0] 41 (0, 0)) := by rw [hbb.block _ HS.out]; exact HK.out
      have HBB := hideR hbb
      have HB3 := hideR hbk
      clear hb3 hbb hbk y0 y1 y2 y3 y4 y5 y6 y7 y8 y9
      cases X with
      | error z =>
        obtain rfl : e = .panicked (gave z) := hx
        have hcu : u3.cell? ⟨w.heap.size + 1, 0, none⟩ = some (.int .i64 0) := by unfold World.cell?; rw [HB3.out]; rfl
        have hzu : u3.frozen? ⟨w.heap.size + 1, 0, none⟩ = false := by unfold World.frozen?; rw [HB3.out]; simp
        go_wp2_with fail
        refine leaves_cons (f := 9) (args := #[.pointer (some ⟨w.heap.size + 1, 0, none⟩)]) (by simp) (by simp [go_sem]) ?_
        refine (vCatch ⟨w.heap.size + 1, 0, none⟩ (.int .i64 0) z [] _ hcu hzu).mono ?_
        rintro e u' w'' ⟨rfl, rfl, rfl⟩
        simp [Leaves, settle, results, Tryd.results7, go_sem, hcu]
        exact below_set (below_go' HB1.out HBB.out) 0 _
      | ok r =>
        obtain rfl : e = .returned (.tuple #[]) := hx
        go_wp2
        go_roundw
        case rel => exact ⟨1, by omega, rfl, ⟨_, rfl⟩, HBB, hideR (fun _ => ⟨_, rfl⟩)⟩
        case measure => simp [RowKit.intOf]
    · obtain ⟨r, rfl⟩ := HX.out rfl
      have HBK := hideR (show wr.heap[w.heap.size + 1]? = some (.cells #[.int .i64 0] 41 (0, 0)) by rw [HR.out.block _ HS.out]; exact HK.out)
      have hcu : wr.cell? ⟨w.heap.size + 1, 0, none⟩ = some (.int .i64 0) := by unfold World.cell?; rw [HBK.out]; rfl
      have hzu : wr.frozen? ⟨w.heap.size + 1, 0, none⟩ = false := by unfold World.frozen?; rw [HBK.out]; simp
      go_wp2_with fail
      refine leaves_cons (f := 9) (args := #[.pointer (some ⟨w.heap.size + 1, 0, none⟩)]) (by simp) (by simp [go_sem]) ?_
      refine (vIdle ⟨w.heap.size + 1, 0, none⟩ _).mono ?_
      rintro e u' w'' ⟨rfl, rfl, rfl⟩
      simp [Leaves, settle, results, Tryd.results7, go_sem, hcu]
      exact below_set (below_go' HB1.out HR.out) 0 _
end Go.Proofs.YtlpnoelolkbmmaaDoor

namespace Go.Proofs.YtlpnoelolkbmmaaDoor
open Go.RowKit Rep Val
set_option linter.unusedVariables false
namespace Val
structure MW {d : Nat} (w : World) (bT bF : Nat) (rv bv : Value) (rs : List Int) (l : List (Ins (IL d))) : Prop where
  utf : UtfI w
  md : MD w bT bF rv bv
  ints : IntsS w (fun k => k < w.heap.size) rv rs
  at_ : AtS w (fun k => k < w.heap.size) (d + 1) bv l
  sm : ∀ x ∈ l, SmI 1 x
  len : l.length ≤ 100000000
  dep : d + 1 ≤ 4611686018427387904
  chk : chk (mOf (d := d + 1) rs l) = 0
  one : rs.length ≤ 1
theorem MW.on {d : Nat} {w w' : World} {bT bF : Nat} {rv bv : Value} {rs : List Int} {l : List (Ins (IL d))} (h : MW w bT bF rv bv rs l) (hb : Below w.heap.size w w') : MW w' bT bF rv bv rs l :=
  ⟨utfI_on hb h.utf, h.md.on hb, ints_now hb h.ints, at_now hb h.at_, h.sm, h.len, h.dep, h.chk, h.one⟩
def vz {α : Type} : Except Int α → Int
  | .ok _ => 0
  | .error z => z
end Val
theorem Val.MW.where_ {d : Nat} {w : World} {bT bF : Nat} {rv bv : Value} {rs : List Int} {l : List (Ins (IL d))} (h : MW w bT bF rv bv rs l) :
    Calls Tryd.prog 7 #[.agg (mCells bT bF)] w fun e w' => (match wnP stpS l [] ⟨rs, rs, 0, false⟩ with | .ok _ => e = .returned (.tuple #[.int .i64 (-1), .int .i64 0]) | .error z => e = .returned (.tuple #[.int .i64 0, .int .i64 z])) ∧ Below w.heap.size w w' :=
  vWhere w bT bF rv bv rs l h.utf h.md h.ints h.at_ h.sm h.len h.dep h.chk h.one
set_option maxRecDepth 100000 in
set_option maxHeartbeats 4000000 in
theorem Val.MW.validate {d : Nat} {w : World} {bT bF : Nat} {rv bv : Value} {rs : List Int} {l : List (Ins (IL d))} (h : MW w bT bF rv bv rs l) :
    Calls Tryd.prog 5 #[.agg (mCells bT bF)] w fun e w' => e = .returned (.int .i64 (vz (wnP stpS l [] ⟨rs, rs, 0, false⟩))) ∧ Below w.heap.size w w' := by
  have hb := new_on' w (.cells (mCells bT bF) 40)
  have HB := hideR hb
  have HW := hideR (h.on hb).where_
  clear hb h
  generalize wnP stpS l [] ⟨rs, rs, 0, false⟩ = X at *
  unfold mCells at *
  go_enter Tryd.func5, Tryd.ntmps5
  go_wp2_with fail
  refine HW.out.mono ?_
  intro e u hx
  cases X with
  | error z =>
    obtain ⟨rfl, hb⟩ := hx
    have H2 := hideR hb
    clear hb
    go_wp2
    go_ret
    exact ⟨rfl, below_go' HB.out H2.out⟩
  | ok r =>
    obtain ⟨rfl, hb⟩ := hx
    have H2 := hideR hb
    clear hb
    go_wp2
    go_ret
    exact ⟨rfl, below_go' HB.out H2.out⟩
namespace Val
theorem cellOf {w : World} {b j : Nat} {cs : Array Value} {t : TypeId} {v : Value} (h : w.heap[b]? = some (.cells cs t (0, 0))) (hv : cs[j]? = some v) : w.cell? ⟨b, j, none⟩ = some v := by unfold World.cell?; rw [h]; exact hv
def mk4 (w : World) (bv : Value) (z : Int) : World := (((w.alloc (.cells #[.slice (some ⟨w.heap.size + 1 + 1, 0, none⟩) 1 1, .slice none 0 0, .slice (some ⟨w.heap.size + 1 + 1 + 1, 0, none⟩) 1 1, .slice none 0 0, .slice none 0 0, .slice none 0 0, .slice none 0 0, .slice none 0 0, .slice none 0 0, .slice none 0 0] 40)).alloc
  (.cells #[.int .i64 z] 3)).alloc (.cells #[.slice none 0 0, .slice (some ⟨w.heap.size + 1, 0, none⟩) 1 1] 28)).alloc (.cells #[.int .i64 0, .slice none 0 0, bv] 31)
theorem mk4_says (w : World) (bv : Value) (z : Int) : Below w.heap.size w (mk4 w bv z) ∧ MD (mk4 w bv z) (w.heap.size + 2) (w.heap.size + 3) (.slice (some ⟨w.heap.size + 1, 0, none⟩) 1 1) bv ∧ IntsS (mk4 w bv z) (fun k => k < (mk4 w bv z).heap.size) (.slice (some ⟨w.heap.size + 1, 0, none⟩) 1 1) [z] ∧
    (mk4 w bv z).heap[w.heap.size]? = some (.cells #[.slice (some ⟨w.heap.size + 1 + 1, 0, none⟩) 1 1, .slice none 0 0, .slice (some ⟨w.heap.size + 1 + 1 + 1, 0, none⟩) 1 1, .slice none 0 0, .slice none 0 0, .slice none 0 0, .slice none 0 0, .slice none 0 0, .slice none 0 0, .slice none 0 0] 40 (0, 0)) := by
  unfold mk4
  obtain ⟨A, hA⟩ : ∃ A, A = Obj.cells #[.slice (some ⟨w.heap.size + 1 + 1, 0, none⟩) 1 1, .slice none 0 0, .slice (some ⟨w.heap.size + 1 + 1 + 1, 0, none⟩) 1 1, .slice none 0 0, .slice none 0 0, .slice none 0 0, .slice none 0 0, .slice none 0 0, .slice none 0 0, .slice none 0 0] 40 (0, 0) := ⟨_, rfl⟩
  rw [← hA]
  have h1 := World.alloc_heap_new w A
  have b1 := new_on' w A
  have s1 : (w.alloc A).heap.size = w.heap.size + 1 := World.size_alloc _ _
  generalize w.alloc A = w1 at *
  have h2 := World.alloc_heap_new w1 (.cells #[.int .i64 z] 3)
  have b2 := new_on' w1 (.cells #[.int .i64 z] 3)
  have s2 : (w1.alloc (.cells #[.int .i64 z] 3)).heap.size = w1.heap.size + 1 := World.size_alloc _ _
  have h1 := alloc_of (o' := .cells #[.int .i64 z] 3) h1
  generalize w1.alloc (.cells #[.int .i64 z] 3) = w2 at *
  have h3 := World.alloc_heap_new w2 (.cells #[.slice none 0 0, .slice (some ⟨w.heap.size + 1, 0, none⟩) 1 1] 28)
  have b3 := new_on' w2 (.cells #[.slice none 0 0, .slice (some ⟨w.heap.size + 1, 0, none⟩) 1 1] 28)
  have s3 : (w2.alloc (.cells #[.slice none 0 0, .slice (some ⟨w.heap.size + 1, 0, none⟩) 1 1] 28)).heap.size = w2.heap.size + 1 := World.size_alloc _ _
  have h1 := alloc_of (o' := .cells #[.slice none 0 0, .slice (some ⟨w.heap.size + 1, 0, none⟩) 1 1] 28) h1
  have h2 := alloc_of (o' := .cells #[.slice none 0 0, .slice (some ⟨w.heap.size + 1, 0, none⟩) 1 1] 28) h2
  generalize w2.alloc (.cells #[.slice none 0 0, .slice (some ⟨w.heap.size + 1, 0, none⟩) 1 1] 28) = w3 at *
  have h4 := World.alloc_heap_new w3 (.cells #[.int .i64 0, .slice none 0 0, bv] 31)
  have b4 := new_on' w3 (.cells #[.int .i64 0, .slice none 0 0, bv] 31)
  have s4 : (w3.alloc (.cells #[.int .i64 0, .slice none 0 0, bv] 31)).heap.size = w3.heap.size + 1 := World.size_alloc _ _
  have h1 := alloc_of (o' := .cells #[.int .i64 0, .slice none 0 0, bv] 31) h1
  have h2 := alloc_of (o' := .cells #[.int .i64 0, .slice none 0 0, bv] 31) h2
  have h3 := alloc_of (o' := .cells #[.int .i64 0, .slice none 0 0, bv] 31) h3
  generalize w3.alloc (.cells #[.int .i64 0, .slice none 0 0, bv] 31) = w4 at *
  rw [s1] at h2
  rw [s2, s1] at h3
  rw [s3, s2, s1] at h4
  refine ⟨below_go' (below_go' (below_go' b1 b2) b3) b4, ⟨cellOf h3 rfl, cellOf h3 rfl, cellOf h4 rfl, cellOf h4 rfl, cellOf h4 rfl⟩, rone ⟨by omega, cellOf h2 rfl⟩, by rw [h1, hA]⟩
end Val
set_option maxRecDepth 100000 in
set_option maxHeartbeats 4000000 in
theorem vMake (o : Option Addr) (n k : Nat) (w : World) : Calls Tryd.prog 8 #[.slice o n k] w fun e w' => e = .returned (.agg (mCells (w.heap.size + 2) (w.heap.size + 3))) ∧ w' = mk4 w (.slice o n k) 127 := by
  go_enter Tryd.func8, Tryd.ntmps8
  go_wp2
  obtain ⟨w4, hw4⟩ : ∃ w4, w4 = mk4 w (.slice o n k) 127 := ⟨_, rfl⟩
  have hk := (mk4_says w (.slice o n k) 127).2.2.2
  rw [← hw4] at hk ⊢
  unfold mk4 at hw4
  rw [← hw4]
  have c0 := cellOf hk (j := 0) rfl
  have c1 := cellOf hk (j := 1) rfl
  have c2 := cellOf hk (j := 2) rfl
  have c3 := cellOf hk (j := 3) rfl
  have c4 := cellOf hk (j := 4) rfl
  have c5 := cellOf hk (j := 5) rfl
  have c6 := cellOf hk (j := 6) rfl
  have c7 := cellOf hk (j := 7) rfl
  have c8 := cellOf hk (j := 8) rfl
  have c9 := cellOf hk (j := 9) rfl
  simp [bodyPost, results, Tryd.results8, go_sem, c0, c1, c2, c3, c4, c5, c6, c7, c8, c9, mCells]
end Go.Proofs.YtlpnoelolkbmmaaDoor

namespace Go.Proofs.YtlpnoelolkbmmaaDoor
open Go.RowKit Rep Val
set_option linter.unusedVariables false
namespace Val
abbrev I0 := Ins (IL 0)
theorem goU (step : Unit → Sn → Nat → Option Unit) (k : Nat) : ∀ (l : List I0), (∀ x ∈ l, step () (sn x) k = some ()) → goI step 1 l k () = some ()
  | [], _ => rfl
  | x :: r, h => by
    show (step () (sn x) k).bind (fun s1 => (goI step 0 x.body (k + 1) s1).bind fun s2 => (goI step 0 x.els (k + 1) s2).bind fun s3 => goI step 1 r k s3) = some ()
    rw [h x (by simp)]
    exact goU step k r fun y hy => h y (by simp [hy])
theorem goN (k : Nat) : ∀ (l : List I0) (c : Nat), c + l.length ≤ 65536 → goI stepCount 1 l k c = some (c + l.length)
  | [], c, _ => rfl
  | x :: r, c, h => by
    rw [List.length_cons] at h
    show (stepCount c (sn x) k).bind (fun s1 => (goI stepCount 0 x.body (k + 1) s1).bind fun s2 => (goI stepCount 0 x.els (k + 1) s2).bind fun s3 => goI stepCount 1 r k s3) = _
    unfold stepCount
    rw [if_pos (by omega)]
    show goI stepCount 1 r k (c + 1) = _
    rw [goN k r (c + 1) (by omega), List.length_cons]
    congr 1; omega
theorem goF_mOf {σ : Type} (step : σ → Sn → Nat → Option σ) (rs : List Int) (l : List I0) (s : σ) : goF step 1 (mOf (d := 1) rs l).funcs s = goI step 1 l 0 s := by
  show (goI step 1 l 0 s).bind (fun s1 => some s1) = _
  simp
theorem chk_flat (rs : List Int) (l : List I0) (hr : rs = [] ∨ rs = [127] ∨ rs = [126]) (hl : l.length ≤ 65536) (hlab : ∀ x ∈ l, x.labels = []) (hok : ∀ x ∈ l, okS (sn x) = true) : chk (mOf (d := 1) rs l) = 0 := by
  have h1 : fewM (mOf (d := 1) rs l) = true := by rcases hr with rfl | rfl | rfl <;> rfl
  have h2 : shM (mOf (d := 1) rs l) = true := by rcases hr with rfl | rfl | rfl <;> rfl
  unfold chk
  rw [goF_mOf, goF_mOf, goF_mOf, goF_mOf, h1, h2, goN 0 l 0 (by omega), goU stepLabels 0 l (fun x hx => by unfold stepLabels; rw [show (sn x).labels = [] from hlab x hx]; rfl), goU stepDepth 0 l (fun x hx => rfl), goU stepForm 0 l (fun x hx => by unfold stepForm; rw [if_pos (hok x hx)])]
  rfl
def i0 (op a n : Int) : I0 := ⟨op, a, 0, n, [], (), ()⟩
def dIns (b : Bool) (i : Nat) : I0 := if b then i0 26 0 0 else i0 65 0 i
def dList : List Bool → Nat → List I0
  | [], _ => []
  | b :: r, i => dIns b i :: dList r (i + 1)
def dBody (bs : List Bool) : List I0 := i0 0 0 0 :: dList bs 0
def lft : List Bool → Nat → Nat
  | [], n => n
  | b :: r, n => lft r (if b then n - 1 else n + 1)
theorem dList_len : ∀ (bs : List Bool) (i : Nat), (dList bs i).length = bs.length
  | [], _ => rfl
  | b :: r, i => by show (dList r (i + 1)).length + 1 = r.length + 1; rw [dList_len]
theorem dList_app : ∀ (bs : List Bool) (b : Bool) (i : Nat), dList (bs ++ [b]) i = dList bs i ++ [dIns b (i + bs.length)]
  | [], b, i => rfl
  | c :: r, b, i => by show dIns c i :: dList (r ++ [b]) (i + 1) = dIns c i :: (dList r (i + 1) ++ [dIns b (i + (r.length + 1))]); rw [dList_app]; simp only [Nat.add_assoc, Nat.add_comm 1]
theorem lft_app : ∀ (bs : List Bool) (b : Bool) (n : Nat), lft (bs ++ [b]) n = if b then lft bs n - 1 else lft bs n + 1
  | [], b, n => rfl
  | c :: r, b, n => by show lft (r ++ [b]) _ = _; rw [lft_app]; rfl
theorem lft_le : ∀ (bs : List Bool) (n : Nat), lft bs n ≤ n + bs.length
  | [], n => Nat.le_refl _
  | c :: r, n => by have := lft_le r (if c then n - 1 else n + 1); show lft r _ ≤ n + (r.length + 1); cases c <;> simp at this ⊢ <;> omega
theorem dList_mem : ∀ (bs : List Bool) (i : Nat) (x : I0), x ∈ dList bs i → ∃ b j, j < i + bs.length ∧ x = dIns b j
  | [], _, x, h => by simp [dList] at h
  | b :: r, i, x, h => by
    simp only [dList, List.mem_cons] at h
    rcases h with rfl | h
    · exact ⟨b, i, by rw [List.length_cons]; omega, rfl⟩
    · obtain ⟨c, j, hj, e⟩ := dList_mem r (i + 1) x h
      exact ⟨c, j, by rw [List.length_cons]; omega, e⟩
theorem ok26 : okS (sn (i0 26 0 0)) = true := by decide +kernel
theorem ok0 : okS (sn (i0 0 0 0)) = true := by decide +kernel
theorem ok66 : okS (sn (i0 66 0 0)) = true := by decide +kernel
theorem ok12 : okS (sn (i0 12 1 0)) = true := by decide +kernel
theorem ok65 (n : Nat) (h : n ≤ 65536) : okS (sn (i0 65 0 n)) = true := by
  show okF (form 65) 65 0 0 n [] 0 0 = true
  rw [show form 65 = 9 by decide +kernel]
  unfold okF
  simp [bare]
  omega
theorem dIns_ok (b : Bool) (i : Nat) (h : i ≤ 65536) : okS (sn (dIns b i)) = true ∧ (dIns b i).labels = [] ∧ SmI 1 (dIns b i) := by
  cases b
  · exact ⟨ok65 i h, rfl, .inr (.inr (.inl rfl))⟩
  · exact ⟨ok26, rfl, .inr (.inl rfl)⟩
theorem dBody_ok (bs : List Bool) (h : bs.length ≤ 200) : ∀ x ∈ dBody bs, okS (sn x) = true ∧ x.labels = [] ∧ SmI 1 x := by
  intro x hx
  simp only [dBody, List.mem_cons] at hx
  rcases hx with rfl | hx
  · exact ⟨ok0, rfl, .inl rfl⟩
  · obtain ⟨b, j, hj, rfl⟩ := dList_mem bs 0 x hx
    exact dIns_ok b j (by omega)
theorem getLast_rep (n : Nat) : (List.replicate (n + 1) (127 : Int)).getLastD 0 = 127 := by rw [List.replicate_succ']; simp
theorem run_dead (rs : List Int) : ∀ (bs : List Bool) (i n : Nat), runI stpS (dList bs i) (List.replicate n 127) ⟨rs, rs, 0, true⟩ = .ok (List.replicate (lft bs n) 127, ⟨rs, rs, 0, true⟩)
  | [], i, n => rfl
  | b :: r, i, n => by
    show (match stpS (dIns b i) (List.replicate n 127) ⟨rs, rs, 0, true⟩ with | .ok (st', f') => runI stpS (dList r (i + 1)) st' f' | .error z => .error z) = .ok (List.replicate (lft r (if b then n - 1 else n + 1)) 127, _)
    have hs : stpS (dIns b i) (List.replicate n 127) ⟨rs, rs, 0, true⟩ = .ok (List.replicate (if b then n - 1 else n + 1) 127, ⟨rs, rs, 0, true⟩) := by
      cases b
      · show Except.ok (List.replicate n 127 ++ [127], _) = _
        simp [List.replicate_succ']
      · show (match tk (List.replicate n 127) ⟨rs, rs, 0, true⟩ 0 with | .ok (_, st') => Except.ok (st', (⟨rs, rs, 0, true⟩ : PF)) | .error z => .error z) = _
        cases n with
        | zero => rfl
        | succ m =>
          unfold tk
          rw [if_neg (by simp), if_pos (by rw [getLast_rep]; rfl)]
          simp [List.replicate_succ']
    rw [hs]
    exact run_dead rs r (i + 1) _
theorem dead_says (rs : List Int) (bs : List Bool) : wnP stpS (dBody bs) [] ⟨rs, rs, 0, false⟩ = match pp ⟨rs, rs, 0, true⟩ rs.reverse (List.replicate (lft bs 0) 127) with | .error z => .error z | .ok st2 => if st2.length = 0 then .ok st2 else .error 60 := by
  unfold wnP
  have : runI stpS (dBody bs) [] ⟨rs, rs, 0, false⟩ = .ok (List.replicate (lft bs 0) 127, ⟨rs, rs, 0, true⟩) := by
    show runI stpS (dList bs 0) (List.replicate 0 127) ⟨rs, rs, 0, true⟩ = _
    exact run_dead rs bs 0 0
  rw [this]
  rfl
theorem dead0 (bs : List Bool) : vz (wnP stpS (dBody bs) [] ⟨[], [], 0, false⟩) = if 0 < lft bs 0 then 60 else 0 := by
  rw [dead_says]
  show vz (if (List.replicate (lft bs 0) (127 : Int)).length = 0 then .ok (List.replicate (lft bs 0) 127) else .error 60) = _
  rw [List.length_replicate]
  cases lft bs 0 <;> rfl
theorem dead1 (bs : List Bool) : vz (wnP stpS (dBody bs) [] ⟨[127], [127], 0, false⟩) = if 1 < lft bs 0 then 60 else 0 := by
  rw [dead_says]
  cases lft bs 0 with
  | zero => rfl
  | succ m =>
    have : pp ⟨[127], [127], 0, true⟩ [127] (List.replicate (m + 1) 127) = .ok (List.replicate m 127) := by
      show (match tk (List.replicate (m + 1) 127) ⟨[127], [127], 0, true⟩ 127 with | .ok (_, st') => pp ⟨[127], [127], 0, true⟩ [] st' | .error z => .error z) = _
      unfold tk
      rw [if_neg (by simp), if_pos (by rw [getLast_rep]; rfl)]
      simp [List.replicate_succ', pp]
    rw [show ([127] : List Int).reverse = [127] from rfl, this]
    show vz (if (List.replicate m (127 : Int)).length = 0 then .ok (List.replicate m 127) else .error 60) = _
    rw [List.length_replicate]
    cases m <;> simp [vz]
theorem dead2 (bs : List Bool) : vz (wnP stpS (dBody bs) [] ⟨[126], [126], 0, false⟩) = if 0 < lft bs 0 then 60 else 0 := by
  rw [dead_says]
  cases lft bs 0 with
  | zero => rfl
  | succ m =>
    have : pp ⟨[126], [126], 0, true⟩ [126] (List.replicate (m + 1) 127) = .error 60 := by
      show (match tk (List.replicate (m + 1) 127) ⟨[126], [126], 0, true⟩ 126 with | .ok (_, st') => pp ⟨[126], [126], 0, true⟩ [] st' | .error z => .error z) = _
      unfold tk
      rw [if_neg (by simp), if_neg (by rw [getLast_rep]; decide)]
    rw [show ([126] : List Int).reverse = [126] from rfl, this]
    simp [vz]
theorem wk66 : wnP stpS [i0 66 0 0] [] ⟨[127], [127], 0, false⟩ = .error 60 := rfl
theorem wk65 : vz (wnP stpS [i0 65 0 1] [] ⟨[127], [127], 0, false⟩) = 0 := rfl
theorem wk0 : vz (wnP stpS [i0 0 0 0, i0 26 0 0, i0 65 0 1] [] ⟨[127], [127], 0, false⟩) = 0 := rfl
theorem wk12 : vz (wnP stpS [i0 12 1 0] [] ⟨[127], [127], 0, false⟩) = 61 := rfl
end Val
end Go.Proofs.YtlpnoelolkbmmaaDoor
