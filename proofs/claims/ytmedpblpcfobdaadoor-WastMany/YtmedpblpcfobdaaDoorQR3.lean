/- The document's own look at all instructions, at constants, at limits: the plain answers. -/
import Derived.Test.YtmedpblpcfobdaaDoorQR2
import Derived.Test.YtmedpblpcfobdaaDoorQW8
namespace Go.Proofs.YtmedpblpcfobdaaDoor
open Go.RowKit Rep
set_option linter.unusedVariables false

namespace Rep
/-- are all instructions as their forms say? -/
def okL : (d : Nat) → IL d → Bool
  | 0, _ => true
  | d + 1, l => List.all (α := Ins (IL d)) l fun x => okS (sn x) && (okL d x.body && okL d x.els)
def okX (d : Nat) (x : Ins (IL d)) : Bool := okS (sn x) && (okL d x.body && okL d x.els)
end Rep

set_option maxHeartbeats 1000000 in
theorem refAll0 (o : Option Addr) (cap : Nat) (w : World) :
    Calls Tryd.prog 76 #[.slice o 0 cap] w fun e w' => e = .returned (.bool true) ∧ Below w.heap.size w w' := by
  go_enter Tryd.func76, Tryd.ntmps76
  go_wp2_with fail
  go_loopw [3] (fun i wr => i = .int .i64 0 ∧ wr = w) (fun _ _ => 0)
  case atStart => exact ⟨rfl, rfl⟩
  case round =>
    obtain ⟨rfl, rfl⟩ := hrel
    go_wp2
    go_ret
    exact ⟨rfl, Below.refl _ _⟩

def AllSays (d : Nat) : Prop := ∀ (v : Value) (l : IL d) (w : World), At w d v l →
    Calls Tryd.prog 76 #[v] w fun e w' => e = .returned (.bool (okL d l)) ∧ Below w.heap.size w w'

set_option maxHeartbeats 1000000 in
theorem refAllS (d : Nat) (IH : AllSays d) (v : Value) (l : List (Ins (IL d))) (w : World) (hAt : Row 7 (InsAt w (At w d)) v l) :
    Calls Tryd.prog 76 #[v] w fun e w' => e = .returned (.bool (l.all (okX d))) ∧ Below w.heap.size w w' := by
  have hlen := hAt.1
  by_cases hz : l.length = 0
  · obtain ⟨o, cap, rfl⟩ := hAt.len
    rw [hz]
    obtain rfl : l = [] := List.length_eq_zero_iff.1 hz
    exact refAll0 o cap w
  obtain ⟨b, off, cap, rfl, hx⟩ := hAt.some (by omega)
  obtain ⟨R, hR⟩ : ∃ R, R = l.all (okX d) := ⟨_, rfl⟩
  rw [← hR]
  have HR : Hid (R = (l.drop 0).all (okX d)) := hR
  have HX := hideM hx
  have HIH := hideM IH
  clear hx hAt hR IH
  generalize hn : l.length = n at *
  go_enter Tryd.func76, Tryd.ntmps76
  go_wp2_with fail
  go_loopw [3] (fun i wr => ∃ k : Nat, k ≤ n ∧ i = .int .i64 k ∧ Hid (R = (l.drop k).all (okX d)) ∧ Hid (Below w.heap.size w wr)) (fun i _ => n - (intOf i).toNat)
  case atStart => exact ⟨0, by omega, rfl, HR, Below.refl _ _⟩
  case round =>
    obtain ⟨k, hk, rfl, HK, HBW⟩ := hrel
    by_cases hgo : k < n
    · obtain ⟨x, hxk⟩ : ∃ x, l[k]? = some x := ⟨_, List.getElem?_eq_getElem (by omega)⟩
      have hI := (HX.out k x hxk).on HBW.out (At.on HBW.out d)
      obtain ⟨k0, k1, k2, k3, ⟨lv, k4, a4⟩, ⟨bv, k5, a5⟩, ⟨ev, k6, a6⟩⟩ := hI
      have HN := hideM (HK.out.trans (all_on hxk rfl))
      have HP : Hid (okX d x = (okF (form x.op) x.op x.a x.b x.n x.labels (size d x.body) (size d x.els) && (okL d x.body && okL d x.els))) := rfl
      have I1 := hideM fun (w' : World) (h : Below wr.heap.size wr w') => HIH.out bv x.body w' (At.on h d _ _ a5)
      have I2 := hideM fun (w' : World) (h : Below wr.heap.size wr w') => HIH.out ev x.els w' (At.on h d _ _ a6)
      obtain ⟨lo, lc, rfl⟩ := Row.len a4
      obtain ⟨bo, bc, rfl⟩ := At.len d bv x.body a5
      obtain ⟨eo, ec, rfl⟩ := At.len d ev x.els a6
      have I0 := hideM (refOne x.op x.a x.b x.n x.labels lo bo eo (size d x.body) (size d x.els) lc bc ec wr a4)
      clear hxk a4 a5 a6 HK
      generalize okF (form x.op) x.op x.a x.b x.n x.labels (size d x.body) (size d x.els) = r0 at *
      generalize okL d x.body = r1 at *
      generalize okL d x.els = r2 at *
      generalize size d x.body = nb at *
      generalize size d x.els = ne at *
      generalize x.labels.length = nl at *
      go_wp2_with fail
      refine I0.out.mono ?_
      rintro e w1 ⟨rfl, hb1⟩
      have m5 := cell_on hb1 k5
      have m6 := cell_on hb1 k6
      have HB1 := hideM hb1
      clear hb1 k0 k1 k2 k3 k4 k5 k6
      cases r0
      · have HF : R = false := by rw [HN.out, HP.out]; rfl
        have HFF := hideM HF
        clear HF HN HP
        go_wp2
        go_ret
        exact ⟨by rw [HFF.out]; rfl, below_go HBW.out HB1.out⟩
      · go_wp2_with fail
        refine (I1.out _ HB1.out).mono ?_
        rintro e w2 ⟨rfl, hb2⟩
        have p6 := cell_on hb2 m6
        have HB2 := hideM (below_go HB1.out hb2)
        clear hb2 m5 m6
        cases r1
        · have HF : R = false := by rw [HN.out, HP.out]; rfl
          have HFF := hideM HF
          clear HF HN HP
          go_wp2
          go_ret
          exact ⟨by rw [HFF.out]; rfl, below_go HBW.out HB2.out⟩
        · go_wp2_with fail
          refine (I2.out _ HB2.out).mono ?_
          rintro e w3 ⟨rfl, hb3⟩
          have HB3 := hideM (below_go HBW.out (below_go HB2.out hb3))
          clear hb3 p6
          cases r2
          · have HF : R = false := by rw [HN.out, HP.out]; rfl
            have HFF := hideM HF
            clear HF HN HP
            go_wp2
            go_ret
            exact ⟨by rw [HFF.out]; rfl, HB3.out⟩
          · have HF : Hid (R = (l.drop (k + 1)).all (okX d)) := hideM (by rw [HN.out, HP.out]; rfl)
            clear HN HP
            go_wp2
            go_roundw
            case rel => exact ⟨k + 1, by omega, by go_num, HF, HB3⟩
            case measure => simp [intOf]; omega
    · have HE : R = true := all_end (by omega) HK.out
      have HEE := hideM HE
      clear HE HK
      go_wp2
      go_ret
      exact ⟨by rw [HEE.out]; rfl, HBW.out⟩

theorem refAll : ∀ (d : Nat), AllSays d
  | 0 => fun v l w ⟨o, c, hv⟩ => by
    subst hv
    exact refAll0 o c w
  | d + 1 => fun v l w hAt => refAllS d (refAll d) v l w hAt

set_option maxHeartbeats 1000000 in
theorem refConstant (op a b n : Int) (ls : List Int) (lo bo eo : Option Addr) (nb ne lc bc ec : Nat) (w : World) (hl : Ints w (.slice lo ls.length lc) ls) :
    Calls Tryd.prog 77 #[.agg #[.int .i64 op, .int .i64 a, .int .i64 b, .int .i64 n, .slice lo ls.length lc, .slice bo nb bc, .slice eo ne ec]] w fun e w' => e = .returned (.bool (cst op && okF (form op) op a b n ls nb ne)) ∧ Below w.heap.size w w' := by
  have HO := hideM fun (w' : World) (h : Below w.heap.size w w') => refOne op a b n ls lo bo eo nb ne lc bc ec w' (hl.on h)
  clear hl
  generalize okF (form op) op a b n ls nb ne = r at *
  generalize ls.length = nl at *
  unfold cst
  have hw := hideM fun (o : Obj) => (Below.refl w.heap.size w).alloc (Nat.le_refl _) o
  cases h1 : op == 65
  · cases h2 : op == 66
    · cases h3 : op == 35
      · go_enter Tryd.func77, Tryd.ntmps77
        go_wp2
        go_ret
        exact ⟨rfl, hw.out _⟩
      · go_enter Tryd.func77, Tryd.ntmps77
        go_wp2_with fail
        refine (HO.out _ (hw.out _)).mono ?_
        rintro e u ⟨rfl, hb⟩
        go_wp2
        go_ret
        exact ⟨rfl, below_go (hw.out _) hb⟩
    · go_enter Tryd.func77, Tryd.ntmps77
      go_wp2_with fail
      refine (HO.out _ (hw.out _)).mono ?_
      rintro e u ⟨rfl, hb⟩
      go_wp2
      go_ret
      exact ⟨rfl, below_go (hw.out _) hb⟩
  · go_enter Tryd.func77, Tryd.ntmps77
    go_wp2_with fail
    refine (HO.out _ (hw.out _)).mono ?_
    rintro e u ⟨rfl, hb⟩
    go_wp2
    go_ret
    exact ⟨rfl, below_go (hw.out _) hb⟩
end Go.Proofs.YtmedpblpcfobdaaDoor
