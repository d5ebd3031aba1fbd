/- QJ2: several texts in one. -/
import Derived.Test.YtlpnoelolkbmmaaDoorQJ0
import Derived.Test.YtlpnoelolkbmmaaDoorQJ1
import Derived.Defers
import Derived.Recover
import Derived.Laws.Pointers
namespace Go.Proofs.YtlpnoelolkbmmaaDoor
open Go.RowKit Rep
set_option linter.unusedVariables false

set_option maxHeartbeats 1000000 in
theorem pWalk0D {σ : Type} (w0 : World) (S : Nat → Prop) (Inv : σ → World → Prop) (step : σ → Sn → Nat → Option σ) (k : Int) (o : Option Addr) (c : Nat) (l : IL 0) (dep : Nat) (s : σ) (w : World) (hs : Inv s w) :
    Calls Tryd.prog 42 #[.slice o 0 c, .int .i64 dep, .func (.func 32) #[] #[]] w fun e w' =>
      Kp S w w' ∧ ((∃ s', goI step 0 l dep s = some s' ∧ e = .returned (.tuple #[]) ∧ Inv s' w') ∨ (goI step 0 l dep s = none ∧ e = .panicked (gave k))) := by
  have Hs := hideM hs
  clear hs
  go_enter Tryd.func42, Tryd.ntmps42
  go_wp2_with fail
  go_loopw [10] (fun i wr => i = .int .i64 0 ∧ wr = w) (fun i _ => 0)
  case atStart => exact ⟨rfl, rfl⟩
  case round =>
    obtain ⟨rfl, rfl⟩ := hrel
    go_wp2
    go_end0
    exact ⟨Kp.refl S _, .inl ⟨s, rfl, rfl, Hs.out⟩⟩

set_option maxHeartbeats 2000000 in
theorem pWalkSD {σ : Type} (w0 : World) (S : Nat → Prop) (hS : ∀ k, S k → w0.heap.size ≤ k) (Inv : σ → World → Prop) (hI : ∀ s w w', Below w.heap.size w w' → Inv s w → Inv s w')
    (step : σ → Sn → Nat → Option σ) (k : Int) (see : SeeC 32 (fun x y => #[x, y]) w0 S Inv step k) (d : Nat) (IH : WalkSays (.func (.func 32) #[] #[]) w0 S Inv step k d)
    (v : Value) (l : List (Ins (IL d))) (dep : Nat) (s : σ) (w : World) (hAt : Row 7 (InsAt w0 (At w0 d)) v l) (hb : Below w0.heap.size w0 w) (hs : Inv s w) (hS2 : ∀ k, S k → k < w.heap.size) (hd : dep + (d + 1) ≤ 4611686018427387904) :
    Calls Tryd.prog 42 #[v, .int .i64 dep, .func (.func 32) #[] #[]] w fun e w' =>
      Kp S w w' ∧ ((∃ s', rest step d l dep 0 s = some s' ∧ e = .returned (.tuple #[]) ∧ Inv s' w') ∨ (rest step d l dep 0 s = none ∧ e = .panicked (gave k))) := by
  have hlen := hAt.1
  obtain ⟨o, cap2, hv⟩ := Row.len hAt
  have hx := Row.some hAt
  subst hv
  obtain ⟨R, hR⟩ : ∃ R, R = rest step d l dep 0 s := ⟨_, rfl⟩
  rw [← hR]
  have HR := hideM hR
  have HX := hideM hx
  clear hx hAt hR
  generalize hn : l.length = n at *
  have HSee := hideM see
  have HIH := hideM IH
  have HI := hideM hI
  have HS := hideM hS
  have HS2 := hideM hS2
  have HB := hideM hb
  have Hs := hideM hs
  clear see IH hI hS hb hs hS2
  go_enter Tryd.func42, Tryd.ntmps42
  go_wp2_with fail
  go_loopw [10] (fun i wr => ∃ (j : Nat) (sj : σ), j ≤ n ∧ i = .int .i64 j ∧ Hid (R = rest step d l dep j sj) ∧ Hid (Kp S w wr) ∧ Hid (Inv sj wr)) (fun i _ => n - (RowKit.intOf i).toNat)
  case atStart => exact ⟨0, s, by omega, rfl, HR, Kp.refl S w, Hs⟩
  case round =>
    obtain ⟨j, sj, hj, rfl, HK, HKP, HSJ⟩ := hrel
    by_cases hgo : j < n
    · obtain ⟨b, off, cap3, hv2, hx⟩ := HX.out (by omega)
      injection hv2 with ho h2 h3
      subst ho
      obtain ⟨x, hxk⟩ : ∃ x, l[j]? = some x := ⟨_, List.getElem?_eq_getElem (by omega)⟩
      have hbr := Kp.below HS.out HB.out HKP.out
      have hx' := (hx j x hxk).on hbr (At.on hbr d)
      have c0 := hx'.op
      have c1 := hx'.a
      have c2 := hx'.b
      have c3 := hx'.n
      obtain ⟨lv, c4, a4⟩ := hx'.labels
      obtain ⟨bv, c5, _⟩ := hx'.body
      obtain ⟨ev, c6, _⟩ := hx'.els
      obtain ⟨bv', c5', a5⟩ := (hx j x hxk).body
      obtain ⟨ev', c6', a6⟩ := (hx j x hxk).els
      obtain rfl : bv' = bv := Option.some.inj ((cell_on hbr c5').symm.trans c5)
      obtain rfl : ev' = ev := Option.some.inj ((cell_on hbr c6').symm.trans c6)
      have HN := hideM (HK.out.trans (rest_on hxk))
      obtain ⟨lo, lc, rfl⟩ := Row.len a4
      obtain ⟨bo, bc, rfl⟩ := At.len d bv' x.body a5
      obtain ⟨eo, ec, rfl⟩ := At.len d ev' x.els a6
      have HSN := HSee.out sj (sn x) (.slice lo x.labels.length lc) (.slice bo (size d x.body) bc) (.slice eo (size d x.els) ec) dep
      generalize hnb : size d x.body = nb at *
      generalize hne : size d x.els = ne at *
      generalize hnl : x.labels.length = nl at *
      have A4 := hideM a4
      have A5 := hideM a5
      have A6 := hideM a6
      have HNB := hideM hnb
      have HNE := hideM hne
      have HNL := hideM hnl
      have HBR := hideM hbr
      have HSX := hideM HSN
      clear hx' h2 h3 HX a4 a5 a6 hxk hnb hne hnl hbr hx c5' c6' HSN HK
      go_upto_region 3 with fail
      obtain ⟨wa, hwa⟩ : ∃ wa, wa = wr.alloc (Obj.cells #[.int .i64 x.op, .int .i64 x.a, .int .i64 x.b, .int .i64 x.n, .slice lo nl lc, .slice bo nb bc, .slice eo ne ec] 26) := ⟨_, rfl⟩
      rw [← hwa]
      have hsz : wa.heap.size = wr.heap.size + 1 := by rw [hwa]; exact size_alloc _ _
      have n0 : wa.cell? ⟨wr.heap.size, 0, none⟩ = some (.int .i64 x.op) := by rw [hwa]; exact new_cell _ _ _ _ _ rfl
      have n1 : wa.cell? ⟨wr.heap.size, 1, none⟩ = some (.int .i64 x.a) := by rw [hwa]; exact new_cell _ _ _ _ _ rfl
      have n2 : wa.cell? ⟨wr.heap.size, 2, none⟩ = some (.int .i64 x.b) := by rw [hwa]; exact new_cell _ _ _ _ _ rfl
      have n3 : wa.cell? ⟨wr.heap.size, 3, none⟩ = some (.int .i64 x.n) := by rw [hwa]; exact new_cell _ _ _ _ _ rfl
      have n4 : wa.cell? ⟨wr.heap.size, 4, none⟩ = some (.slice lo nl lc) := by rw [hwa]; exact new_cell _ _ _ _ _ rfl
      have n5 : wa.cell? ⟨wr.heap.size, 5, none⟩ = some (.slice bo nb bc) := by rw [hwa]; exact new_cell _ _ _ _ _ rfl
      have n6 : wa.cell? ⟨wr.heap.size, 6, none⟩ = some (.slice eo ne ec) := by rw [hwa]; exact new_cell _ _ _ _ _ rfl
      have hka : Hid (Kp S w wa) := by rw [hwa]; exact HKP.out.alloc _
      have hra : Below wr.heap.size wr wa := by rw [hwa]; exact (Below.refl _ wr).alloc (Nat.le_refl _) _
      have HRA := hideM hra
      clear hwa hra c0 c1 c2 c3 c4 c5 c6
      go_wp2_with fail
      refine (HSX.out wa (Kp.below HS.out HB.out hka.out) (HI.out _ _ _ HRA.out HSJ.out) (A4.out.on HRA.out) ⟨bo, bc, by rw [← HNB.out]; rfl⟩ ⟨eo, ec, by rw [← HNE.out]; rfl⟩ (by omega)).mono ?_
      rintro e u ⟨hk1, hcase⟩
      have HK1 := hideM hk1
      have hwr : ¬ S wr.heap.size := fun hh => by have h1 := HS2.out _ hh; have h2 := HKP.out.size; omega
      have HWR := hideM hwr
      have hku := hideM (hka.out.trans hk1)
      have m5 := (hk1.cell (p := ⟨wr.heap.size, 5, none⟩) (by show wr.heap.size < _; omega) hwr).trans n5
      have m6 := (hk1.cell (p := ⟨wr.heap.size, 6, none⟩) (by show wr.heap.size < _; omega) hwr).trans n6
      have hus := hk1.size
      clear hk1 hwr n0 n1 n2 n3 n4 n5 n6
      rcases hcase with ⟨s1, e1, rfl, i1⟩ | ⟨e1, rfl⟩
      · have I1 := hideM i1
        have E1 := hideM e1
        clear i1 e1
        go_wp2_with fail
        refine (HIH.out _ x.body (dep + 1) s1 u A5.out (Kp.below HS.out HB.out hku.out) I1.out (fun q hq => Nat.lt_of_lt_of_le (HS2.out q hq) hku.out.size) (by omega)).mono ?_
        rintro e u2 ⟨hk2, hcase⟩
        have hku2 := hideM (hku.out.trans hk2)
        have p6 := (hk2.cell (p := ⟨wr.heap.size, 6, none⟩) (by show wr.heap.size < _; omega) HWR.out).trans m6
        clear hk2 m5 m6
        rcases hcase with ⟨s2, e2, rfl, i2⟩ | ⟨e2, rfl⟩
        · have I2 := hideM i2
          have E2 := hideM e2
          clear i2 e2
          go_wp2_with fail
          refine (HIH.out _ x.els (dep + 1) s2 u2 A6.out (Kp.below HS.out HB.out hku2.out) I2.out (fun q hq => Nat.lt_of_lt_of_le (HS2.out q hq) hku2.out.size) (by omega)).mono ?_
          rintro e u3 ⟨hk3, hcase⟩
          have hku3 := hideM (hku2.out.trans hk3)
          clear hk3 p6
          rcases hcase with ⟨s3, e3, rfl, i3⟩ | ⟨e3, rfl⟩
          · have HF : Hid (R = rest step d l dep (j + 1) s3) := by
              have := HN.out; rw [E1.out, Option.bind_some, E2.out, Option.bind_some, e3, Option.bind_some] at this; exact this
            have I3 := hideM i3
            clear i3 e3
            go_wp2
            go_roundw
            case rel => exact ⟨j + 1, s3, by omega, by go_num, HF, hku3, I3⟩
            case measure => simp [RowKit.intOf]; omega
          · have HF : R = none := by
              have := HN.out; rw [E1.out, Option.bind_some, E2.out, Option.bind_some, e3, Option.bind_none] at this; exact this
            go_wp2
            exact ⟨rfl, hku3.out, .inr ⟨HF, rfl⟩⟩
        · have HF : R = none := by
            have := HN.out; rw [E1.out, Option.bind_some, e2, Option.bind_none] at this; exact this
          go_wp2
          exact ⟨rfl, hku2.out, .inr ⟨HF, rfl⟩⟩
      · have HF : R = none := by
          have := HN.out; rw [e1, Option.bind_none] at this; exact this
        go_wp2
        exact ⟨rfl, hku.out, .inr ⟨HF, rfl⟩⟩
    · have HE : R = some sj := HK.out.trans (rest_end (by omega))
      have HEE := hideM HE
      clear HE HK
      go_wp2
      go_end0
      exact ⟨HKP.out, .inl ⟨sj, HEE.out, rfl, HSJ.out⟩⟩

theorem pWalkD {σ : Type} (w0 : World) (S : Nat → Prop) (hS : ∀ k, S k → w0.heap.size ≤ k) (Inv : σ → World → Prop) (hI : ∀ s w w', Below w.heap.size w w' → Inv s w → Inv s w')
    (step : σ → Sn → Nat → Option σ) (k : Int) (see : SeeC 32 (fun x y => #[x, y]) w0 S Inv step k) : ∀ (d : Nat), WalkSays (.func (.func 32) #[] #[]) w0 S Inv step k d
  | 0 => fun v l dep s w ⟨o, c, hv⟩ hb hs hS2 hd => by
    subst hv
    exact pWalk0D w0 S Inv step k o c l dep s w hs
  | d + 1 => fun v l dep s w hAt hb hs hS2 hd => pWalkSD w0 S hS Inv hI step k see d (pWalkD w0 S hS Inv hI step k see d) v l dep s w hAt hb hs hS2 hd
end Go.Proofs.YtlpnoelolkbmmaaDoor

namespace Go.Proofs.YtlpnoelolkbmmaaDoor
open Go.RowKit Rep
set_option linter.unusedVariables false

set_option maxHeartbeats 2000000 in
theorem pWalkMD {σ : Type} (w0 : World) (S : Nat → Prop) (hS : ∀ k, S k → w0.heap.size ≤ k) (Inv : σ → World → Prop) (hI : ∀ s w w', Below w.heap.size w w' → Inv s w → Inv s w')
    (step : σ → Sn → Nat → Option σ) (k : Int) (see : SeeC 32 (fun x y => #[x, y]) w0 S Inv step k) (d : Nat) (hd : d ≤ 4611686018427387904)
    (v0 v1 v2 v3 v4 v5 v6 v7 v8 v9 : Value) (l : List (Fun d)) (s : σ) (w : World) (hAt : Row 3 (FunAt w0 d) v2 l) (hT : TenSlices v0 v1 v3 v4 v5 v6 v7 v8 v9) (hb : Below w0.heap.size w0 w) (hs : Inv s w) (hS2 : ∀ k, S k → k < w.heap.size) :
    Calls Tryd.prog 26 #[.agg #[v0, v1, v2, v3, v4, v5, v6, v7, v8, v9], .func (.func 32) #[] #[]] w fun e w' =>
      Kp S w w' ∧ ((∃ s', goF step d l s = some s' ∧ e = .returned (.tuple #[]) ∧ Inv s' w') ∨ (goF step d l s = none ∧ e = .panicked (gave k))) := by
  have hlen := hAt.1
  obtain ⟨o, cap2, hv⟩ := Row.len hAt
  have hx := Row.some hAt
  subst hv
  obtain ⟨⟨o0, m0, c0, rfl⟩, ⟨o1, m1, c1, rfl⟩, ⟨o3, m3, c3, rfl⟩, ⟨o4, m4, c4, rfl⟩, ⟨o5, m5, c5, rfl⟩, ⟨o6, m6, c6, rfl⟩, ⟨o7, m7, c7, rfl⟩, ⟨o8, m8, c8, rfl⟩, ⟨o9, m9, c9, rfl⟩⟩ := hT
  obtain ⟨R, hR⟩ : ∃ R, R = goF step d l s := ⟨_, rfl⟩
  rw [← hR]
  have HR : Hid (R = goF step d (l.drop 0) s) := hR
  have HX := hideM hx
  clear hx hAt hR
  generalize hn : l.length = n at *
  have HWk := hideM (pWalkD w0 S hS Inv hI step k see d)
  have HI := hideM hI
  have HS := hideM hS
  have HS2 := hideM hS2
  have HB := hideM hb
  have Hs := hideM hs
  clear see hI hS hb hs hS2
  go_enter Tryd.func26, Tryd.ntmps26
  go_wp2_with fail
  go_loopw [9] (fun i wr => ∃ (j : Nat) (sj : σ), j ≤ n ∧ i = .int .i64 j ∧ Hid (R = goF step d (l.drop j) sj) ∧ Hid (Kp S w wr) ∧ Hid (Inv sj wr)) (fun i _ => n - (RowKit.intOf i).toNat)
  case atStart => exact ⟨0, s, by omega, rfl, HR, (Kp.refl S w).alloc _, HI.out _ _ _ ((Below.refl _ w).alloc (Nat.le_refl _) _) Hs.out⟩
  case round =>
    obtain ⟨j, sj, hj, rfl, HK, HKP, HSJ⟩ := hrel
    by_cases hgo : j < n
    · obtain ⟨b, off, cap3, hv2, hx⟩ := HX.out (by omega)
      injection hv2 with ho h2 h3
      subst ho
      obtain ⟨x, hxk⟩ : ∃ x, l[j]? = some x := ⟨_, List.getElem?_eq_getElem (by omega)⟩
      have hbr := Kp.below HS.out HB.out HKP.out
      have hx' := (hx j x hxk).on hbr
      have c0 := hx'.type
      obtain ⟨lv, c1, a1⟩ := hx'.locals
      obtain ⟨bv', c2', a2⟩ := (hx j x hxk).body
      have c2 := cell_on hbr c2'
      have HN := hideM (HK.out.trans (goF_on hxk))
      obtain ⟨lo, lc, rfl⟩ := Row.len a1
      obtain ⟨bo, bc, rfl⟩ := At.len d bv' x.body a2
      generalize hnb : size d x.body = nb at *
      generalize hnl : x.locals.length = nl at *
      have A2 := hideM a2
      clear hx' h2 h3 HX a1 a2 hxk hnb hnl hbr hx c2' HK
      go_upto_region 4 with fail
      obtain ⟨wa, hwa⟩ : ∃ wa, wa = wr.alloc (Obj.cells #[.int .i64 x.type, .slice lo nl lc, .slice bo nb bc] 31) := ⟨_, rfl⟩
      rw [← hwa]
      have hsz : wa.heap.size = wr.heap.size + 1 := by rw [hwa]; exact size_alloc _ _
      have n2 : wa.cell? ⟨wr.heap.size, 2, none⟩ = some (.slice bo nb bc) := by rw [hwa]; exact new_cell _ _ _ _ _ rfl
      have hka : Hid (Kp S w wa) := by rw [hwa]; exact HKP.out.alloc _
      have hra : Below wr.heap.size wr wa := by rw [hwa]; exact (Below.refl _ wr).alloc (Nat.le_refl _) _
      have HRA := hideM hra
      clear hwa hra c0 c1 c2
      go_wp2_with fail
      refine (HWk.out _ x.body 0 sj wa A2.out (Kp.below HS.out HB.out hka.out) (HI.out _ _ _ HRA.out HSJ.out) (fun q hq => Nat.lt_of_lt_of_le (HS2.out q hq) hka.out.size) (by omega)).mono ?_
      rintro e u ⟨hk1, hcase⟩
      have hku := hideM (hka.out.trans hk1)
      clear hk1
      rcases hcase with ⟨s1, e1, rfl, i1⟩ | ⟨e1, rfl⟩
      · have HF : Hid (R = goF step d (l.drop (j + 1)) s1) := by
          have := HN.out; rw [e1, Option.bind_some] at this; exact this
        have I1 := hideM i1
        clear i1 e1
        go_wp2
        go_roundw
        case rel => exact ⟨j + 1, s1, by omega, by go_num, HF, hku, I1⟩
        case measure => simp [RowKit.intOf]; omega
      · have HF : R = none := by
          have := HN.out; rw [e1, Option.bind_none] at this; exact this
        go_wp2
        exact ⟨rfl, hku.out, .inr ⟨HF, rfl⟩⟩
    · have HE : R = some sj := HK.out.trans (goF_end (by omega))
      have HEE := hideM HE
      clear HE HK
      go_wp2
      go_end0
      exact ⟨HKP.out, .inl ⟨sj, HEE.out, rfl, HSJ.out⟩⟩
end Go.Proofs.YtlpnoelolkbmmaaDoor

namespace Go.Proofs.YtlpnoelolkbmmaaDoor
open Go.RowKit Rep
set_option linter.unusedVariables false
namespace Rep
def okS (x : Sn) : Bool := okF (form x.op) x.op x.a x.b x.n x.labels x.nb x.ne
def cst (op : Int) : Bool := op == 65 || op == 66 || op == 35
end Rep
def stepForm (_ : Unit) (x : Sn) (_ : Nat) : Option Unit := if okS x = true then some () else none

set_option maxHeartbeats 1000000 in
theorem seeForm {I : World → Prop} (C : FormC I) (w0 : World) : SeeC 32 (fun x y => #[x, y]) w0 (fun _ => False) (fun (_ : Unit) w => I w) stepForm 30 := by
  intro s x lv bv ev dep w hb hI hl hbv hev hd
  obtain ⟨lo, lc, rfl⟩ := Row.len hl
  obtain ⟨bo, bc, rfl⟩ := hbv
  obtain ⟨eo, ec, rfl⟩ := hev
  generalize hS : stepForm s x dep = R
  unfold stepForm okS at hS
  have HS := hideM hS
  have HC := fun (w' : World) (h : Below w.heap.size w w') => pneedForm C x.op x.a x.b x.n x.labels lo bo eo x.nb x.ne lc bc ec w' (C.keep h hI) (hl.on h)
  have HCC := hideM HC
  have HII := hideM hI
  clear HC hS hI hl hb
  generalize okF (form x.op) x.op x.a x.b x.n x.labels x.nb x.ne = r at *
  generalize x.labels.length = nl at *
  go_enter Tryd.func32, Tryd.ntmps32
  go_wp2_with fail
  have hw := (Below.refl w.heap.size w).alloc (Nat.le_refl _) (Obj.cells #[.int .i64 x.op, .int .i64 x.a, .int .i64 x.b, .int .i64 x.n, .slice lo nl lc, .slice bo x.nb bc, .slice eo x.ne ec] 26)
  refine (HCC.out _ hw).mono ?_
  rintro e u ⟨hN, hb2⟩
  have HB2 := hideM (below_go hw hb2)
  clear hb2 hw HCC
  rcases hN with ⟨rfl, rfl⟩ | ⟨rfl, rfl⟩
  · have HR : Hid (R = some ()) := by have := HS.out; rw [if_pos rfl] at this; exact this.symm
    clear HS
    go_wp2
    go_end0
    exact ⟨Kp.of_below HB2.out, .inl ⟨(), HR.out, rfl, C.keep HB2.out HII.out⟩⟩
  · have HR : Hid (R = none) := by have := HS.out; rw [if_neg (by decide)] at this; exact this.symm
    clear HS
    go_wp2
    exact ⟨rfl, Kp.of_below HB2.out, .inr ⟨HR.out, rfl⟩⟩

set_option maxHeartbeats 1000000 in
theorem pneedConstanta {I : World → Prop} (C : FormC I) (op a b n : Int) (ls : List Int) (lo bo eo : Option Addr) (nb ne lc bc ec : Nat) (w : World) (d1 : (op == 65) = true) (hI : I w) (hl : Ints w (.slice lo ls.length lc) ls) :
    Calls Tryd.prog 47 #[.agg #[.int .i64 op, .int .i64 a, .int .i64 b, .int .i64 n, .slice lo ls.length lc, .slice bo nb bc, .slice eo ne ec]] w fun e w' => Needs (okF (form op) op a b n ls nb ne) 30 e ∧ Below w.heap.size w w' := by
  have HCC := hideM fun (w' : World) (h : Below w.heap.size w w') => pneedForm C op a b n ls lo bo eo nb ne lc bc ec w' (C.keep h hI) (hl.on h)
  clear hl hI
  generalize okF (form op) op a b n ls nb ne = r at *
  generalize ls.length = nl at *
  go_enter Tryd.func47, Tryd.ntmps47
  go_wp2_with fail
  refine (pNeed true _ _).mono ?_
  rintro e u2 ⟨hN, rfl⟩
  obtain rfl := hN.yes
  go_wp2_with fail
  have hw := (Below.refl w.heap.size w).alloc (Nat.le_refl _) (Obj.cells #[.int .i64 op, .int .i64 a, .int .i64 b, .int .i64 n, .slice lo nl lc, .slice bo nb bc, .slice eo ne ec] 26)
  refine (HCC.out _ hw).mono ?_
  rintro e u ⟨hN, hb2⟩
  have HB2 := hideM (below_go hw hb2)
  clear hb2 hw HCC
  rcases hN with ⟨rfl, rfl⟩ | ⟨rfl, rfl⟩
  · go_wp2
    go_end0
    exact ⟨.inl ⟨rfl, rfl⟩, HB2.out⟩
  · go_wp2
    exact ⟨rfl, .inr ⟨rfl, rfl⟩, HB2.out⟩

set_option maxHeartbeats 1000000 in
theorem pneedConstantb {I : World → Prop} (C : FormC I) (op a b n : Int) (ls : List Int) (lo bo eo : Option Addr) (nb ne lc bc ec : Nat) (w : World) (d1 : (op == 65) = false) (d2 : (op == 66) = true) (hI : I w) (hl : Ints w (.slice lo ls.length lc) ls) :
    Calls Tryd.prog 47 #[.agg #[.int .i64 op, .int .i64 a, .int .i64 b, .int .i64 n, .slice lo ls.length lc, .slice bo nb bc, .slice eo ne ec]] w fun e w' => Needs (okF (form op) op a b n ls nb ne) 30 e ∧ Below w.heap.size w w' := by
  have HCC := hideM fun (w' : World) (h : Below w.heap.size w w') => pneedForm C op a b n ls lo bo eo nb ne lc bc ec w' (C.keep h hI) (hl.on h)
  clear hl hI
  generalize okF (form op) op a b n ls nb ne = r at *
  generalize ls.length = nl at *
  go_enter Tryd.func47, Tryd.ntmps47
  go_wp2_with fail
  refine (pNeed true _ _).mono ?_
  rintro e u2 ⟨hN, rfl⟩
  obtain rfl := hN.yes
  go_wp2_with fail
  have hw := (Below.refl w.heap.size w).alloc (Nat.le_refl _) (Obj.cells #[.int .i64 op, .int .i64 a, .int .i64 b, .int .i64 n, .slice lo nl lc, .slice bo nb bc, .slice eo ne ec] 26)
  refine (HCC.out _ hw).mono ?_
  rintro e u ⟨hN, hb2⟩
  have HB2 := hideM (below_go hw hb2)
  clear hb2 hw HCC
  rcases hN with ⟨rfl, rfl⟩ | ⟨rfl, rfl⟩
  · go_wp2
    go_end0
    exact ⟨.inl ⟨rfl, rfl⟩, HB2.out⟩
  · go_wp2
    exact ⟨rfl, .inr ⟨rfl, rfl⟩, HB2.out⟩

set_option maxHeartbeats 1000000 in
theorem pneedConstantc {I : World → Prop} (C : FormC I) (op a b n : Int) (ls : List Int) (lo bo eo : Option Addr) (nb ne lc bc ec : Nat) (w : World) (d1 : (op == 65) = false) (d2 : (op == 66) = false) (d3 : (op == 35) = true) (hI : I w) (hl : Ints w (.slice lo ls.length lc) ls) :
    Calls Tryd.prog 47 #[.agg #[.int .i64 op, .int .i64 a, .int .i64 b, .int .i64 n, .slice lo ls.length lc, .slice bo nb bc, .slice eo ne ec]] w fun e w' => Needs (okF (form op) op a b n ls nb ne) 30 e ∧ Below w.heap.size w w' := by
  have HCC := hideM fun (w' : World) (h : Below w.heap.size w w') => pneedForm C op a b n ls lo bo eo nb ne lc bc ec w' (C.keep h hI) (hl.on h)
  clear hl hI
  generalize okF (form op) op a b n ls nb ne = r at *
  generalize ls.length = nl at *
  go_enter Tryd.func47, Tryd.ntmps47
  go_wp2_with fail
  refine (pNeed true _ _).mono ?_
  rintro e u2 ⟨hN, rfl⟩
  obtain rfl := hN.yes
  go_wp2_with fail
  have hw := (Below.refl w.heap.size w).alloc (Nat.le_refl _) (Obj.cells #[.int .i64 op, .int .i64 a, .int .i64 b, .int .i64 n, .slice lo nl lc, .slice bo nb bc, .slice eo ne ec] 26)
  refine (HCC.out _ hw).mono ?_
  rintro e u ⟨hN, hb2⟩
  have HB2 := hideM (below_go hw hb2)
  clear hb2 hw HCC
  rcases hN with ⟨rfl, rfl⟩ | ⟨rfl, rfl⟩
  · go_wp2
    go_end0
    exact ⟨.inl ⟨rfl, rfl⟩, HB2.out⟩
  · go_wp2
    exact ⟨rfl, .inr ⟨rfl, rfl⟩, HB2.out⟩

set_option maxHeartbeats 1000000 in
theorem pneedConstantd {I : World → Prop} (C : FormC I) (op a b n : Int) (ls : List Int) (lo bo eo : Option Addr) (nb ne lc bc ec : Nat) (w : World) (d1 : (op == 65) = false) (d2 : (op == 66) = false) (d3 : (op == 35) = false) (hI : I w) (hl : Ints w (.slice lo ls.length lc) ls) :
    Calls Tryd.prog 47 #[.agg #[.int .i64 op, .int .i64 a, .int .i64 b, .int .i64 n, .slice lo ls.length lc, .slice bo nb bc, .slice eo ne ec]] w fun e w' => Needs (false) 30 e ∧ Below w.heap.size w w' := by
  clear hl hI
  generalize ls.length = nl at *
  go_enter Tryd.func47, Tryd.ntmps47
  go_wp2_with fail
  refine (pNeed false _ _).mono ?_
  rintro e u2 ⟨hN, rfl⟩
  obtain rfl := hN.no
  go_wp2
  exact ⟨rfl, .inr ⟨rfl, rfl⟩, (Below.refl w.heap.size w).alloc (Nat.le_refl _) _⟩

theorem pneedConstant {I : World → Prop} (C : FormC I) (op a b n : Int) (ls : List Int) (lo bo eo : Option Addr) (nb ne lc bc ec : Nat) (w : World) (hI : I w) (hl : Ints w (.slice lo ls.length lc) ls) :
    Calls Tryd.prog 47 #[.agg #[.int .i64 op, .int .i64 a, .int .i64 b, .int .i64 n, .slice lo ls.length lc, .slice bo nb bc, .slice eo ne ec]] w fun e w' => Needs (cst op && okF (form op) op a b n ls nb ne) 30 e ∧ Below w.heap.size w w' := by
  unfold cst
  cases h1 : op == 65
  · cases h2 : op == 66
    · cases h3 : op == 35
      · exact pneedConstantd C op a b n ls lo bo eo nb ne lc bc ec w h1 h2 h3 hI hl
      · exact pneedConstantc C op a b n ls lo bo eo nb ne lc bc ec w h1 h2 h3 hI hl
    · exact pneedConstantb C op a b n ls lo bo eo nb ne lc bc ec w h1 h2 hI hl
  · exact pneedConstanta C op a b n ls lo bo eo nb ne lc bc ec w h1 hI hl

theorem cntInv_on (cb : Nat) : ∀ (c : Nat) (w w' : World), Below w.heap.size w w' → (c ≤ 65536 ∧ w.cell? ⟨cb, 0, none⟩ = some (.int .i64 c) ∧ w.frozen? ⟨cb, 0, none⟩ = false) →
    (c ≤ 65536 ∧ w'.cell? ⟨cb, 0, none⟩ = some (.int .i64 c) ∧ w'.frozen? ⟨cb, 0, none⟩ = false) :=
  fun c w w' hb ⟨h1, h2, h3⟩ => ⟨h1, cell_on hb h2, (hb.frozen (p := ⟨cb, 0, none⟩) (World.block_lt_of_cell? _ _ h2)).trans h3⟩
namespace Rep
theorem new_one (w : World) (t : TypeId) (v : Value) : (w.alloc (.cells #[v] t)).cell? ⟨w.heap.size, 0, none⟩ = some v := new_cell _ _ _ _ _ rfl
end Rep
set_option maxHeartbeats 1000000 in
theorem pcountInstructions (d : Nat) (hd : d ≤ 4611686018427387904) (v0 v1 v2 v3 v4 v5 v6 v7 v8 v9 : Value) (l : List (Fun d)) (w : World) (hAt : Row 3 (FunAt w d) v2 l) (hT : TenSlices v0 v1 v3 v4 v5 v6 v7 v8 v9) :
    Calls Tryd.prog 25 #[.agg #[v0, v1, v2, v3, v4, v5, v6, v7, v8, v9]] w fun e w' =>
      Below w.heap.size w w' ∧ ((∃ c : Nat, goF stepCount d l 0 = some c ∧ c ≤ 65536 ∧ e = .returned (.int .i64 c)) ∨ (goF stepCount d l 0 = none ∧ e = .panicked (gave 3))) := by
  have HAt := hideM hAt
  have HT := hideM hT
  obtain ⟨o2, n2, c2, rfl⟩ := Row.slice hAt
  obtain ⟨⟨o0, m0, c0, rfl⟩, ⟨o1, m1, c1, rfl⟩, ⟨o3, m3, c3, rfl⟩, ⟨o4, m4, c4, rfl⟩, ⟨o5, m5, c5, rfl⟩, ⟨o6, m6, c6, rfl⟩, ⟨o7, m7, c7, rfl⟩, ⟨o8, m8, c8, rfl⟩, ⟨o9, m9, c9, rfl⟩⟩ := hT
  obtain ⟨R, hR⟩ : ∃ R, R = goF stepCount d l 0 := ⟨_, rfl⟩
  have HR := hideM hR
  rw [← hR]
  clear hAt hR
  have hmf : ∀ (fn : Fn) (first cap : Array Value) (w : World), (Instr.makeFunc fn first cap).run Tryd.prog w = .ok (.func fn first cap) w := fun _ _ _ _ => rfl
  go_enter Tryd.func25, Tryd.ntmps25
  go_wp2_with fail
  have hbel : ∀ (o : Obj), Below w.heap.size w ((w.alloc o).alloc (.cells #[.int .i64 0] 3)) := fun o => ((Below.refl _ w).alloc (Nat.le_refl _) o).alloc (by simp) _
  refine (pWalkMA (.pointer (some ⟨w.heap.size + 1, 0, none⟩)) w (fun k => k = w.heap.size + 1) (by rintro k rfl; omega) _ (cntInv_on (w.heap.size + 1)) stepCount 3 (seeCount w (w.heap.size + 1)) d hd _ _ _ _ _ _ _ _ _ _ l 0 _ HAt.out HT.out (hbel _)
    ⟨by omega, by rw [World.cell?_alloc_at _ _ _ _ (by simp)]; rfl, by rw [World.frozen?_alloc_at _ _ _ _ (by simp)]⟩ (by rintro k rfl; simp)).mono ?_
  rintro e u ⟨hk, hcase⟩
  have HB := hideM (Kp.below (S := fun k => k = w.heap.size + 1) (w0 := w) (by rintro k rfl; omega) (hbel _) hk)
  rw [← HR.out] at hcase
  clear hk hbel HAt HT
  rcases hcase with ⟨c, hc, rfl, hle, hcell, hfz⟩ | ⟨hc, rfl⟩
  · have HC := hideM hc
    clear hc HR
    go_wp2
    go_ret
    exact ⟨HB.out, .inl ⟨c, HC.out, hle, rfl⟩⟩
  · have HC := hideM hc
    clear hc HR
    go_wp2
    exact ⟨rfl, HB.out, .inr ⟨HC.out, rfl⟩⟩
end Go.Proofs.YtlpnoelolkbmmaaDoor

namespace Go.Proofs.YtlpnoelolkbmmaaDoor
open Go.RowKit Rep
set_option linter.unusedVariables false

namespace Rep
def cntM (d : Nat) (l : List (Fun d)) : Nat := (goF stepCount d l 0).getD 65537
end Rep

end Go.Proofs.YtlpnoelolkbmmaaDoor

namespace Go.Proofs.YtlpnoelolkbmmaaDoor
open Go.RowKit Rep
set_option linter.unusedVariables false
namespace Rep
structure Box (w : World) (v0 v1 v2 v3 v4 v5 v6 v7 v8 v9 : Value) (u : World) : Prop where
  c0 : u.cell? ⟨w.heap.size, 0, none⟩ = some v0
  c1 : u.cell? ⟨w.heap.size, 1, none⟩ = some v1
  c2 : u.cell? ⟨w.heap.size, 2, none⟩ = some v2
  c3 : u.cell? ⟨w.heap.size, 3, none⟩ = some v3
  c4 : u.cell? ⟨w.heap.size, 4, none⟩ = some v4
  c5 : u.cell? ⟨w.heap.size, 5, none⟩ = some v5
  c6 : u.cell? ⟨w.heap.size, 6, none⟩ = some v6
  c7 : u.cell? ⟨w.heap.size, 7, none⟩ = some v7
  c8 : u.cell? ⟨w.heap.size, 8, none⟩ = some v8
  c9 : u.cell? ⟨w.heap.size, 9, none⟩ = some v9
  bel : Below w.heap.size w u
theorem Box.on {w : World} {v0 v1 v2 v3 v4 v5 v6 v7 v8 v9 : Value} {u u' : World} (hb : Below u.heap.size u u') (h : Box w v0 v1 v2 v3 v4 v5 v6 v7 v8 v9 u) : Box w v0 v1 v2 v3 v4 v5 v6 v7 v8 v9 u' :=
  ⟨cell_on hb h.c0, cell_on hb h.c1, cell_on hb h.c2, cell_on hb h.c3, cell_on hb h.c4, cell_on hb h.c5, cell_on hb h.c6, cell_on hb h.c7, cell_on hb h.c8, cell_on hb h.c9, h.bel.trans (hb.mono h.bel.size)⟩
theorem Box.start (w : World) (t : TypeId) (v0 v1 v2 v3 v4 v5 v6 v7 v8 v9 : Value) : Box w v0 v1 v2 v3 v4 v5 v6 v7 v8 v9 (w.alloc (.cells #[v0, v1, v2, v3, v4, v5, v6, v7, v8, v9] t)) := by
  refine ⟨?_, ?_, ?_, ?_, ?_, ?_, ?_, ?_, ?_, ?_, (Below.refl _ w).alloc (Nat.le_refl _) _⟩
  all_goals exact new_cell _ _ _ _ _ rfl
theorem Box.new {w : World} {v0 v1 v2 v3 v4 v5 v6 v7 v8 v9 : Value} {u : World} (h : Box w v0 v1 v2 v3 v4 v5 v6 v7 v8 v9 u) (o : Obj) : Box w v0 v1 v2 v3 v4 v5 v6 v7 v8 v9 (u.alloc o) := h.on ((Below.refl _ u).alloc (Nat.le_refl _) o)
theorem Box.new1 {w : World} {v0 v1 v2 v3 v4 v5 v6 v7 v8 v9 : Value} {u u' : World} {o : Obj} (h : Box w v0 v1 v2 v3 v4 v5 v6 v7 v8 v9 u) (e : u' = u.alloc o) : Box w v0 v1 v2 v3 v4 v5 v6 v7 v8 v9 u' := by rw [e]; exact h.new o
theorem Box.new2 {w : World} {v0 v1 v2 v3 v4 v5 v6 v7 v8 v9 : Value} {u u' : World} {o p : Obj} (h : Box w v0 v1 v2 v3 v4 v5 v6 v7 v8 v9 u) (e : u' = (u.alloc o).alloc p) : Box w v0 v1 v2 v3 v4 v5 v6 v7 v8 v9 u' := by rw [e]; exact (h.new o).new p
def room {d : Nat} : Nat → List (Dat d) → Bool
  | _, [] => true
  | r, x :: t => decide (x.bytes.size ≤ r) && room (r - x.bytes.size) t
theorem room_end {d r j : Nat} {l : List (Dat d)} (h : l.length ≤ j) : room r (l.drop j) = true := by rw [List.drop_of_length_le h]; cases r <;> rfl
theorem room_on {d r j : Nat} {l : List (Dat d)} {x : Dat d} (hx : l[j]? = some x) : room r (l.drop j) = (decide (x.bytes.size ≤ r) && room (r - x.bytes.size) (l.drop (j + 1))) := by
  have hl : j < l.length := (List.getElem?_eq_some_iff.1 hx).1
  have he : l[j] = x := (List.getElem?_eq_some_iff.1 hx).2
  rw [List.drop_eq_getElem_cons hl, he]; cases r <;> rfl
def fewT (t : FT) : Bool := few t.params.length && (few t.results.length && true)
def fewL {d : Nat} (f : Fun d) : Bool := decide ((f.locals.length : Int) ≤ 256)
def fewE {d : Nat} (e : Elm d) : Bool := few e.funcs.length && true
def few1 (n : Int) : Bool := decide (n ≤ 1)
def len {α : Type} (l : List α) : Int := l.length
def fewM {d : Nat} (m : Mod d) : Bool :=
  [len m.types, len m.imports, len m.funcs, len m.tables, len m.mems].all few && ([len m.globals, len m.exports, len m.elems, len m.datas].all few && (few1 (len m.start) &&
    (m.types.all fewT && (m.funcs.all fewL && (m.elems.all fewE && room 262144 m.datas)))))
end Rep

set_option maxHeartbeats 4000000 in
theorem pneedFew (d : Nat) (v0 v1 v2 v3 v4 v5 v6 v7 v8 v9 : Value) (m : Mod d) (w : World) (hM : ModAt w d v0 v1 v2 v3 v4 v5 v6 v7 v8 v9 m) (hsz : ∀ x ∈ m.datas, x.bytes.size ≤ 9223372036854775807) :
    Calls Tryd.prog 24 #[.agg #[v0, v1, v2, v3, v4, v5, v6, v7, v8, v9]] w fun e w' => Needs (fewM m) 3 e ∧ Below w.heap.size w w' := by
  have l0 := hM.types.1
  have l2 := hM.funcs.1
  have l8 := hM.elems.1
  have l9 := hM.datas.1
  have HM := hideM hM
  have HSZ := hideM hsz
  obtain ⟨o0, c0, rfl⟩ := Row.len hM.types
  obtain ⟨o1, c1, rfl⟩ := Row.len hM.imports
  obtain ⟨o2, c2, rfl⟩ := Row.len hM.funcs
  obtain ⟨o3, c3, rfl⟩ := Row.len hM.tables
  obtain ⟨o4, c4, rfl⟩ := Row.len hM.mems
  obtain ⟨o5, c5, rfl⟩ := Row.len hM.globals
  obtain ⟨o6, c6, rfl⟩ := Row.len hM.exports
  obtain ⟨o7, c7, rfl⟩ := Row.len hM.start
  obtain ⟨o8, c8, rfl⟩ := Row.len hM.elems
  obtain ⟨o9, c9, rfl⟩ := Row.len hM.datas
  have HB0 := hideM (Box.start w 40 (.slice o0 m.types.length c0) (.slice o1 m.imports.length c1) (.slice o2 m.funcs.length c2) (.slice o3 m.tables.length c3) (.slice o4 m.mems.length c4) (.slice o5 m.globals.length c5) (.slice o6 m.exports.length c6) (.slice o7 m.start.length c7) (.slice o8 m.elems.length c8) (.slice o9 m.datas.length c9))
  obtain ⟨R, hR⟩ : ∃ R, R = fewM m := ⟨_, rfl⟩
  rw [← hR]
  unfold fewM at hR
  simp only [len] at hR
  have HR := hideM hR
  clear hM hR hsz
  generalize hn0 : m.types.length = n0 at *
  generalize hn1 : m.imports.length = n1 at *
  generalize hn2 : m.funcs.length = n2 at *
  generalize hn3 : m.tables.length = n3 at *
  generalize hn4 : m.mems.length = n4 at *
  generalize hn5 : m.globals.length = n5 at *
  generalize hn6 : m.exports.length = n6 at *
  generalize hn7 : m.start.length = n7 at *
  generalize hn8 : m.elems.length = n8 at *
  generalize hn9 : m.datas.length = n9 at *
  go_enter Tryd.func24, Tryd.ntmps24
  go_upto_region 1 with fail
  obtain ⟨wb, hwb⟩ : ∃ wb, wb = w.alloc (.cells #[.slice o0 n0 c0, .slice o1 n1 c1, .slice o2 n2 c2, .slice o3 n3 c3, .slice o4 n4 c4, .slice o5 n5 c5, .slice o6 n6 c6, .slice o7 n7 c7, .slice o8 n8 c8, .slice o9 n9 c9] 40) := ⟨_, rfl⟩
  rw [← hwb]
  have HB1 : Hid (Box w (.slice o0 n0 c0) (.slice o1 n1 c1) (.slice o2 n2 c2) (.slice o3 n3 c3) (.slice o4 n4 c4) (.slice o5 n5 c5) (.slice o6 n6 c6) (.slice o7 n7 c7) (.slice o8 n8 c8) (.slice o9 n9 c9) wb) := by rw [hwb]; exact HB0
  clear hwb HB0
  obtain ⟨q0, q1, q2, q3, q4, q5, q6, q7, q8, q9, qb⟩ := HB1.out
  clear qb

  go_wp2_with fail
  refine (pneedShort _ [(n0 : Int), (n1 : Int), (n2 : Int), (n3 : Int), (n4 : Int)] _ (ints_new _ _ _ _ _ (by simp) (by show 5 ≤ _; omega))).mono ?_
  rintro e w1 ⟨hN, hu⟩
  have HB2 : Hid (Box w (.slice o0 n0 c0) (.slice o1 n1 c1) (.slice o2 n2 c2) (.slice o3 n3 c3) (.slice o4 n4 c4) (.slice o5 n5 c5) (.slice o6 n6 c6) (.slice o7 n7 c7) (.slice o8 n8 c8) (.slice o9 n9 c9) w1) := by rw [hu]; exact HB1.out.new _
  clear hu q0 q1 q2 q3 q4 q5 q6 q7 q8 q9
  rcases hN with ⟨h, rfl⟩ | ⟨h, rfl⟩
  rotate_left
  · have HF : R = false := by rw [HR.out, h, Bool.false_and]
    go_wp2
    exact ⟨rfl, .inr ⟨HF, rfl⟩, HB2.out.bel⟩
  have HR1 := hideM (HR.out.trans (by rw [h, Bool.true_and]))
  clear h HR HB1
  obtain ⟨q0, q1, q2, q3, q4, q5, q6, q7, q8, q9, qb⟩ := HB2.out
  clear qb
  go_wp2_with fail
  refine (pneedShort _ [(n5 : Int), (n6 : Int), (n8 : Int), (n9 : Int)] _ (ints_new _ _ _ _ _ (by simp) (by show 4 ≤ _; omega))).mono ?_
  rintro e w2 ⟨hN, hu⟩
  have HB3 : Hid (Box w (.slice o0 n0 c0) (.slice o1 n1 c1) (.slice o2 n2 c2) (.slice o3 n3 c3) (.slice o4 n4 c4) (.slice o5 n5 c5) (.slice o6 n6 c6) (.slice o7 n7 c7) (.slice o8 n8 c8) (.slice o9 n9 c9) w2) := by rw [hu]; exact HB2.out.new _
  clear hu q0 q1 q2 q3 q4 q5 q6 q7 q8 q9
  rcases hN with ⟨h, rfl⟩ | ⟨h, rfl⟩
  rotate_left
  · have HF : R = false := by rw [HR1.out, h, Bool.false_and]
    go_wp2
    exact ⟨rfl, .inr ⟨HF, rfl⟩, HB3.out.bel⟩
  have HR2 := hideM (HR1.out.trans (by rw [h, Bool.true_and]))
  clear h HR1 HB2
  obtain ⟨q0, q1, q2, q3, q4, q5, q6, q7, q8, q9, qb⟩ := HB3.out
  clear qb
  have HFW : few1 (n7 : Int) = decide ((n7 : Int) ≤ 1) := rfl
  generalize hfw : few1 (n7 : Int) = rfw at *
  have HHFW := hideM HFW
  clear HFW hfw
  go_wp2_with fail
  refine (pNeed _ _ _).mono ?_
  rintro e u ⟨hN, rfl⟩
  rw [← HHFW.out] at hN
  rcases hN with ⟨h, rfl⟩ | ⟨h, rfl⟩
  rotate_left
  · have HF : R = false := by rw [HR2.out, h, Bool.false_and]
    go_wp2
    exact ⟨rfl, .inr ⟨HF, rfl⟩, HB3.out.bel⟩
  have HR3 := hideM (HR2.out.trans (by rw [h, Bool.true_and]))
  clear h HR2 HHFW
  go_wp2_with fail
  go_loopw [50] (fun i wr => ∃ j : Nat, j ≤ n0 ∧ i = .int .i64 j ∧ Hid (R = ((m.types.drop j).all fewT && (m.funcs.all fewL && (m.elems.all fewE && room 262144 m.datas)))) ∧ Hid (Box w (.slice o0 n0 c0) (.slice o1 n1 c1) (.slice o2 n2 c2) (.slice o3 n3 c3) (.slice o4 n4 c4) (.slice o5 n5 c5) (.slice o6 n6 c6) (.slice o7 n7 c7) (.slice o8 n8 c8) (.slice o9 n9 c9) wr)) (fun i _ => n0 - (RowKit.intOf i).toNat)
  case atStart => exact ⟨0, by omega, rfl, HR3, HB3⟩
  case round =>
    obtain ⟨j, hj, rfl, HK, HBXa⟩ := hrel
    clear HR3 HB3
    clear q0 q1 q2 q3 q4 q5 q6 q7 q8 q9
    by_cases hgo : j < n0
    · have hmr := HM.out.on HBXa.out.bel
      obtain ⟨b, off, cap3, hv2, hx⟩ := Row.some hmr.types (by omega)
      injection hv2 with ho h2 h3
      subst ho
      obtain ⟨x, hxk⟩ : ∃ x, m.types[j]? = some x := ⟨_, List.getElem?_eq_getElem (by omega)⟩
      have hx' := hx j x hxk
      have HN := hideM hxk
      obtain ⟨pv, k0, a0⟩ := hx'.params
      obtain ⟨rv, k1, a1⟩ := hx'.results
      have b0 := a0.1
      have b1 := a1.1
      obtain ⟨po, pc, rfl⟩ := Row.len a0
      obtain ⟨ro, rc, rfl⟩ := Row.len a1
      have HP : Hid (fewT x = [(x.params.length : Int), (x.results.length : Int)].all few) := rfl
      generalize x.params.length = np at *
      generalize x.results.length = nr at *
      clear hx' a0 a1
      clear hmr hx h2 h3 hxk
      go_wp2_with fail
      refine (pneedShort _ [(np : Int), (nr : Int)] _ (ints_new _ _ _ _ _ (by simp) (by show 2 ≤ _; omega))).mono ?_
      rintro e u ⟨hN, hu⟩
      have HBN := hideM (Box.new2 HBXa.out hu)
      clear hu
      rcases hN with ⟨h, rfl⟩ | ⟨h, rfl⟩
      · have HF : Hid (R = ((m.types.drop (j + 1)).all fewT && (m.funcs.all fewL && (m.elems.all fewE && room 262144 m.datas)))) := hideM (by rw [HK.out, all_on HN.out rfl, HP.out, h, Bool.true_and])
        clear h HK HN HP
        go_wp2
        go_roundw
        case rel => exact ⟨j + 1, by omega, by go_num, HF, HBN⟩
        case measure => simp [RowKit.intOf]; omega
      · have HF : R = false := by rw [HK.out, all_on HN.out rfl, HP.out, h, Bool.false_and, Bool.false_and]
        go_wp2
        exact ⟨rfl, .inr ⟨HF, rfl⟩, HBN.out.bel⟩
    · have HEa : Hid (R = (m.funcs.all fewL && (m.elems.all fewE && room 262144 m.datas))) := hideM (by rw [HK.out, all_end (by omega) (rfl : _ = (m.types.drop j).all fewT), Bool.true_and])
      clear HK
      generalize wr = w3 at *
      obtain ⟨q0, q1, q2, q3, q4, q5, q6, q7, q8, q9, qb⟩ := HBXa.out
      clear qb
      go_wp2_with fail
      go_loopw [66] (fun i wr => ∃ j : Nat, j ≤ n2 ∧ i = .int .i64 j ∧ Hid (R = ((m.funcs.drop j).all fewL && (m.elems.all fewE && room 262144 m.datas))) ∧ Hid (Box w (.slice o0 n0 c0) (.slice o1 n1 c1) (.slice o2 n2 c2) (.slice o3 n3 c3) (.slice o4 n4 c4) (.slice o5 n5 c5) (.slice o6 n6 c6) (.slice o7 n7 c7) (.slice o8 n8 c8) (.slice o9 n9 c9) wr)) (fun i _ => n2 - (RowKit.intOf i).toNat)
      case atStart => exact ⟨0, by omega, rfl, HEa, HBXa⟩
      case round =>
        obtain ⟨j, hj, rfl, HK, HBXb⟩ := hrel
        clear HEa HBXa
        clear q0 q1 q2 q3 q4 q5 q6 q7 q8 q9
        by_cases hgo : j < n2
        · have hmr := HM.out.on HBXb.out.bel
          obtain ⟨b, off, cap3, hv2, hx⟩ := Row.some hmr.funcs (by omega)
          injection hv2 with ho h2 h3
          subst ho
          obtain ⟨x, hxk⟩ : ∃ x, m.funcs[j]? = some x := ⟨_, List.getElem?_eq_getElem (by omega)⟩
          have hx' := hx j x hxk
          have HN := hideM hxk
          have k0 := hx'.type
          obtain ⟨pv, k1, a0⟩ := hx'.locals
          obtain ⟨rv, k2, a1⟩ := hx'.body
          have b0 := a0.1
          obtain ⟨po, pc, rfl⟩ := Row.len a0
          obtain ⟨ro, rc, rfl⟩ := At.len d rv x.body a1
          have HP : Hid (fewL x = decide ((x.locals.length : Int) ≤ 256)) := rfl
          generalize x.locals.length = np at *
          generalize size d x.body = nr at *
          clear hx' a0 a1
          clear hmr hx h2 h3 hxk
          go_wp2_with fail
          refine (pNeed _ _ _).mono ?_
          rintro e u ⟨hN, hu⟩
          have HBN := hideM (Box.new1 HBXb.out hu)
          clear hu
          rcases hN with ⟨h, rfl⟩ | ⟨h, rfl⟩
          · have HF : Hid (R = ((m.funcs.drop (j + 1)).all fewL && (m.elems.all fewE && room 262144 m.datas))) := hideM (by rw [HK.out, all_on HN.out rfl, HP.out, h, Bool.true_and])
            clear h HK HN HP
            go_wp2
            go_roundw
            case rel => exact ⟨j + 1, by omega, by go_num, HF, HBN⟩
            case measure => simp [RowKit.intOf]; omega
          · have HF : R = false := by rw [HK.out, all_on HN.out rfl, HP.out, h, Bool.false_and, Bool.false_and]
            go_wp2
            exact ⟨rfl, .inr ⟨HF, rfl⟩, HBN.out.bel⟩
        · have HEb : Hid (R = (m.elems.all fewE && room 262144 m.datas)) := hideM (by rw [HK.out, all_end (by omega) (rfl : _ = (m.funcs.drop j).all fewL), Bool.true_and])
          clear HK
          generalize wr = w4 at *
          obtain ⟨q0, q1, q2, q3, q4, q5, q6, q7, q8, q9, qb⟩ := HBXb.out
          clear qb
          go_wp2_with fail
          go_loopw [79] (fun i wr => ∃ j : Nat, j ≤ n8 ∧ i = .int .i64 j ∧ Hid (R = ((m.elems.drop j).all fewE && room 262144 m.datas)) ∧ Hid (Box w (.slice o0 n0 c0) (.slice o1 n1 c1) (.slice o2 n2 c2) (.slice o3 n3 c3) (.slice o4 n4 c4) (.slice o5 n5 c5) (.slice o6 n6 c6) (.slice o7 n7 c7) (.slice o8 n8 c8) (.slice o9 n9 c9) wr)) (fun i _ => n8 - (RowKit.intOf i).toNat)
          case atStart => exact ⟨0, by omega, rfl, HEb, HBXb⟩
          case round =>
            obtain ⟨j, hj, rfl, HK, HBXc⟩ := hrel
            clear HEb HBXb
            clear q0 q1 q2 q3 q4 q5 q6 q7 q8 q9
            by_cases hgo : j < n8
            · have hmr := HM.out.on HBXc.out.bel
              obtain ⟨b, off, cap3, hv2, hx⟩ := Row.some hmr.elems (by omega)
              injection hv2 with ho h2 h3
              subst ho
              obtain ⟨x, hxk⟩ : ∃ x, m.elems[j]? = some x := ⟨_, List.getElem?_eq_getElem (by omega)⟩
              have hx' := hx j x hxk
              have HN := hideM hxk
              obtain ⟨k0, k1, k2, k3, ⟨lv, k4, a4⟩, ⟨bv, k5, a5⟩, ⟨ev, k6, a6⟩⟩ := hx'.offset
              obtain ⟨lo, lc, rfl⟩ := Row.len a4
              obtain ⟨bo, bc, rfl⟩ := At.len d bv x.offset.body a5
              obtain ⟨eo, ec, rfl⟩ := At.len d ev x.offset.els a6
              obtain ⟨pv, k7, a0⟩ := hx'.funcs
              have b0 := a0.1
              obtain ⟨po, pc, rfl⟩ := Row.len a0
              have HP : Hid (fewE x = [(x.funcs.length : Int)].all few) := rfl
              generalize x.funcs.length = np at *
              generalize size d x.offset.body = nb at *
              generalize size d x.offset.els = ne at *
              generalize x.offset.labels.length = nl at *
              clear hx' a0 a4 a5 a6
              clear hmr hx h2 h3 hxk
              go_wp2_with fail
              refine (pneedShort _ [(np : Int)] _ (ints_new _ _ _ _ _ (by simp) (by show 1 ≤ _; omega))).mono ?_
              rintro e u ⟨hN, hu⟩
              have HBN := hideM (Box.new2 HBXc.out hu)
              clear hu
              rcases hN with ⟨h, rfl⟩ | ⟨h, rfl⟩
              · have HF : Hid (R = ((m.elems.drop (j + 1)).all fewE && room 262144 m.datas)) := hideM (by rw [HK.out, all_on HN.out rfl, HP.out, h, Bool.true_and])
                clear h HK HN HP
                go_wp2
                go_roundw
                case rel => exact ⟨j + 1, by omega, by go_num, HF, HBN⟩
                case measure => simp [RowKit.intOf]; omega
              · have HF : R = false := by rw [HK.out, all_on HN.out rfl, HP.out, h, Bool.false_and, Bool.false_and]
                go_wp2
                exact ⟨rfl, .inr ⟨HF, rfl⟩, HBN.out.bel⟩
            · have HEc : Hid (R = room 262144 m.datas) := hideM (by rw [HK.out, all_end (by omega) (rfl : _ = (m.elems.drop j).all fewE), Bool.true_and])
              clear HK
              generalize wr = w5 at *
              obtain ⟨q0, q1, q2, q3, q4, q5, q6, q7, q8, q9, qb⟩ := HBXc.out
              clear qb
              go_wp2_with fail
              go_loopw [8, 92] (fun rm i wr => ∃ (j r : Nat), j ≤ n9 ∧ r ≤ 262144 ∧ rm = .int .i64 r ∧ i = .int .i64 j ∧ Hid (R = room r (m.datas.drop j)) ∧ Hid (Box w (.slice o0 n0 c0) (.slice o1 n1 c1) (.slice o2 n2 c2) (.slice o3 n3 c3) (.slice o4 n4 c4) (.slice o5 n5 c5) (.slice o6 n6 c6) (.slice o7 n7 c7) (.slice o8 n8 c8) (.slice o9 n9 c9) wr)) (fun _ i _ => n9 - (RowKit.intOf i).toNat)
              case atStart => exact ⟨0, 262144, by omega, by omega, rfl, rfl, HEc, HBXc⟩
              case round =>
                obtain ⟨j, r, hj, hr, rfl, rfl, HK, HBY⟩ := hrel
                clear HEc HBXc
                clear q0 q1 q2 q3 q4 q5 q6 q7 q8 q9
                by_cases hgo : j < n9
                · have hmr := HM.out.on HBY.out.bel
                  obtain ⟨b, off, cap3, hv2, hx⟩ := Row.some hmr.datas (by omega)
                  injection hv2 with ho h2 h3
                  subst ho
                  obtain ⟨x, hxk⟩ : ∃ x, m.datas[j]? = some x := ⟨_, List.getElem?_eq_getElem (by omega)⟩
                  have hx' := hx j x hxk
                  have HN := hideM (HK.out.trans (room_on hxk))
                  have hbs := HSZ.out x (List.mem_of_getElem? hxk)
                  obtain ⟨k0, k1, k2, k3, ⟨lv, k4, a4⟩, ⟨bv, k5, a5⟩, ⟨ev, k6, a6⟩⟩ := hx'.offset
                  obtain ⟨lo, lc, rfl⟩ := Row.len a4
                  obtain ⟨bo, bc, rfl⟩ := At.len d bv x.offset.body a5
                  obtain ⟨eo, ec, rfl⟩ := At.len d ev x.offset.els a6
                  have k7 := hx'.bytes
                  generalize size d x.offset.body = nb at *
                  generalize size d x.offset.els = ne at *
                  generalize x.offset.labels.length = nl at *
                  clear hx' a4 a5 a6
                  clear hmr hx h2 h3 hxk HK
                  by_cases hle : x.bytes.size ≤ r
                  · have d1 : decide (0 ≤ (r : Int) - (x.bytes.size : Int)) = true := by simp; omega
                    have HF : Hid (R = room (r - x.bytes.size) (m.datas.drop (j + 1))) := hideM (by rw [HN.out, decide_eq_true hle, Bool.true_and])
                    clear HN
                    go_wp2_with fail
                    refine (pNeed true _ _).mono ?_
                    rintro e u ⟨hN, hu⟩
                    obtain rfl := hN.yes
                    have HBN := hideM (Box.new1 HBY.out hu)
                    clear hu hN
                    go_wp2
                    go_roundw
                    case rel => exact ⟨j + 1, r - x.bytes.size, by omega, by omega, by go_num, by go_num, HF, HBN⟩
                    case measure => simp [RowKit.intOf]; omega
                  · have d1 : decide (0 ≤ (r : Int) - (x.bytes.size : Int)) = false := by simp; omega
                    have HF : R = false := by rw [HN.out, decide_eq_false hle, Bool.false_and]
                    have HFF := hideM HF
                    clear HN HF
                    go_wp2_with fail
                    refine (pNeed false _ _).mono ?_
                    rintro e u ⟨hN, hu⟩
                    obtain rfl := hN.no
                    have HBN := hideM (Box.new1 HBY.out hu)
                    clear hu hN
                    go_wp2
                    exact ⟨rfl, .inr ⟨HFF.out, rfl⟩, HBN.out.bel⟩
                · have HEE : Hid (R = true) := hideM (by rw [HK.out, room_end (by omega)])
                  clear HK
                  go_wp2
                  go_end0
                  exact ⟨.inl ⟨HEE.out, rfl⟩, HBY.out.bel⟩
end Go.Proofs.YtlpnoelolkbmmaaDoor

namespace Go.Proofs.YtlpnoelolkbmmaaDoor
open Go.RowKit Rep
set_option linter.unusedVariables false

set_option maxHeartbeats 1000000 in
theorem pWalk0B {σ : Type} (w0 : World) (S : Nat → Prop) (Inv : σ → World → Prop) (step : σ → Sn → Nat → Option σ) (k : Int) (o : Option Addr) (c : Nat) (l : IL 0) (dep : Nat) (s : σ) (w : World) (hs : Inv s w) :
    Calls Tryd.prog 42 #[.slice o 0 c, .int .i64 dep, .func (.func 27) #[] #[]] w fun e w' =>
      Kp S w w' ∧ ((∃ s', goI step 0 l dep s = some s' ∧ e = .returned (.tuple #[]) ∧ Inv s' w') ∨ (goI step 0 l dep s = none ∧ e = .panicked (gave k))) := by
  have Hs := hideM hs
  clear hs
  go_enter Tryd.func42, Tryd.ntmps42
  go_wp2_with fail
  go_loopw [10] (fun i wr => i = .int .i64 0 ∧ wr = w) (fun i _ => 0)
  case atStart => exact ⟨rfl, rfl⟩
  case round =>
    obtain ⟨rfl, rfl⟩ := hrel
    go_wp2
    go_end0
    exact ⟨Kp.refl S _, .inl ⟨s, rfl, rfl, Hs.out⟩⟩

set_option maxHeartbeats 2000000 in
theorem pWalkSB {σ : Type} (w0 : World) (S : Nat → Prop) (hS : ∀ k, S k → w0.heap.size ≤ k) (Inv : σ → World → Prop) (hI : ∀ s w w', Below w.heap.size w w' → Inv s w → Inv s w')
    (step : σ → Sn → Nat → Option σ) (k : Int) (see : SeeC 27 (fun x y => #[x, y]) w0 S Inv step k) (d : Nat) (IH : WalkSays (.func (.func 27) #[] #[]) w0 S Inv step k d)
    (v : Value) (l : List (Ins (IL d))) (dep : Nat) (s : σ) (w : World) (hAt : Row 7 (InsAt w0 (At w0 d)) v l) (hb : Below w0.heap.size w0 w) (hs : Inv s w) (hS2 : ∀ k, S k → k < w.heap.size) (hd : dep + (d + 1) ≤ 4611686018427387904) :
    Calls Tryd.prog 42 #[v, .int .i64 dep, .func (.func 27) #[] #[]] w fun e w' =>
      Kp S w w' ∧ ((∃ s', rest step d l dep 0 s = some s' ∧ e = .returned (.tuple #[]) ∧ Inv s' w') ∨ (rest step d l dep 0 s = none ∧ e = .panicked (gave k))) := by
  have hlen := hAt.1
  obtain ⟨o, cap2, hv⟩ := Row.len hAt
  have hx := Row.some hAt
  subst hv
  obtain ⟨R, hR⟩ : ∃ R, R = rest step d l dep 0 s := ⟨_, rfl⟩
  rw [← hR]
  have HR := hideM hR
  have HX := hideM hx
  clear hx hAt hR
  generalize hn : l.length = n at *
  have HSee := hideM see
  have HIH := hideM IH
  have HI := hideM hI
  have HS := hideM hS
  have HS2 := hideM hS2
  have HB := hideM hb
  have Hs := hideM hs
  clear see IH hI hS hb hs hS2
  go_enter Tryd.func42, Tryd.ntmps42
  go_wp2_with fail
  go_loopw [10] (fun i wr => ∃ (j : Nat) (sj : σ), j ≤ n ∧ i = .int .i64 j ∧ Hid (R = rest step d l dep j sj) ∧ Hid (Kp S w wr) ∧ Hid (Inv sj wr)) (fun i _ => n - (RowKit.intOf i).toNat)
  case atStart => exact ⟨0, s, by omega, rfl, HR, Kp.refl S w, Hs⟩
  case round =>
    obtain ⟨j, sj, hj, rfl, HK, HKP, HSJ⟩ := hrel
    by_cases hgo : j < n
    · obtain ⟨b, off, cap3, hv2, hx⟩ := HX.out (by omega)
      injection hv2 with ho h2 h3
      subst ho
      obtain ⟨x, hxk⟩ : ∃ x, l[j]? = some x := ⟨_, List.getElem?_eq_getElem (by omega)⟩
      have hbr := Kp.below HS.out HB.out HKP.out
      have hx' := (hx j x hxk).on hbr (At.on hbr d)
      have c0 := hx'.op
      have c1 := hx'.a
      have c2 := hx'.b
      have c3 := hx'.n
      obtain ⟨lv, c4, a4⟩ := hx'.labels
      obtain ⟨bv, c5, _⟩ := hx'.body
      obtain ⟨ev, c6, _⟩ := hx'.els
      obtain ⟨bv', c5', a5⟩ := (hx j x hxk).body
      obtain ⟨ev', c6', a6⟩ := (hx j x hxk).els
      obtain rfl : bv' = bv := Option.some.inj ((cell_on hbr c5').symm.trans c5)
      obtain rfl : ev' = ev := Option.some.inj ((cell_on hbr c6').symm.trans c6)
      have HN := hideM (HK.out.trans (rest_on hxk))
      obtain ⟨lo, lc, rfl⟩ := Row.len a4
      obtain ⟨bo, bc, rfl⟩ := At.len d bv' x.body a5
      obtain ⟨eo, ec, rfl⟩ := At.len d ev' x.els a6
      have HSN := HSee.out sj (sn x) (.slice lo x.labels.length lc) (.slice bo (size d x.body) bc) (.slice eo (size d x.els) ec) dep
      generalize hnb : size d x.body = nb at *
      generalize hne : size d x.els = ne at *
      generalize hnl : x.labels.length = nl at *
      have A4 := hideM a4
      have A5 := hideM a5
      have A6 := hideM a6
      have HNB := hideM hnb
      have HNE := hideM hne
      have HNL := hideM hnl
      have HBR := hideM hbr
      have HSX := hideM HSN
      clear hx' h2 h3 HX a4 a5 a6 hxk hnb hne hnl hbr hx c5' c6' HSN HK
      go_upto_region 3 with fail
      obtain ⟨wa, hwa⟩ : ∃ wa, wa = wr.alloc (Obj.cells #[.int .i64 x.op, .int .i64 x.a, .int .i64 x.b, .int .i64 x.n, .slice lo nl lc, .slice bo nb bc, .slice eo ne ec] 26) := ⟨_, rfl⟩
      rw [← hwa]
      have hsz : wa.heap.size = wr.heap.size + 1 := by rw [hwa]; exact size_alloc _ _
      have n0 : wa.cell? ⟨wr.heap.size, 0, none⟩ = some (.int .i64 x.op) := by rw [hwa]; exact new_cell _ _ _ _ _ rfl
      have n1 : wa.cell? ⟨wr.heap.size, 1, none⟩ = some (.int .i64 x.a) := by rw [hwa]; exact new_cell _ _ _ _ _ rfl
      have n2 : wa.cell? ⟨wr.heap.size, 2, none⟩ = some (.int .i64 x.b) := by rw [hwa]; exact new_cell _ _ _ _ _ rfl
      have n3 : wa.cell? ⟨wr.heap.size, 3, none⟩ = some (.int .i64 x.n) := by rw [hwa]; exact new_cell _ _ _ _ _ rfl
      have n4 : wa.cell? ⟨wr.heap.size, 4, none⟩ = some (.slice lo nl lc) := by rw [hwa]; exact new_cell _ _ _ _ _ rfl
      have n5 : wa.cell? ⟨wr.heap.size, 5, none⟩ = some (.slice bo nb bc) := by rw [hwa]; exact new_cell _ _ _ _ _ rfl
      have n6 : wa.cell? ⟨wr.heap.size, 6, none⟩ = some (.slice eo ne ec) := by rw [hwa]; exact new_cell _ _ _ _ _ rfl
      have hka : Hid (Kp S w wa) := by rw [hwa]; exact HKP.out.alloc _
      have hra : Below wr.heap.size wr wa := by rw [hwa]; exact (Below.refl _ wr).alloc (Nat.le_refl _) _
      have HRA := hideM hra
      clear hwa hra c0 c1 c2 c3 c4 c5 c6
      go_wp2_with fail
      refine (HSX.out wa (Kp.below HS.out HB.out hka.out) (HI.out _ _ _ HRA.out HSJ.out) (A4.out.on HRA.out) ⟨bo, bc, by rw [← HNB.out]; rfl⟩ ⟨eo, ec, by rw [← HNE.out]; rfl⟩ (by omega)).mono ?_
      rintro e u ⟨hk1, hcase⟩
      have HK1 := hideM hk1
      have hwr : ¬ S wr.heap.size := fun hh => by have h1 := HS2.out _ hh; have h2 := HKP.out.size; omega
      have HWR := hideM hwr
      have hku := hideM (hka.out.trans hk1)
      have m5 := (hk1.cell (p := ⟨wr.heap.size, 5, none⟩) (by show wr.heap.size < _; omega) hwr).trans n5
      have m6 := (hk1.cell (p := ⟨wr.heap.size, 6, none⟩) (by show wr.heap.size < _; omega) hwr).trans n6
      have hus := hk1.size
      clear hk1 hwr n0 n1 n2 n3 n4 n5 n6
      rcases hcase with ⟨s1, e1, rfl, i1⟩ | ⟨e1, rfl⟩
      · have I1 := hideM i1
        have E1 := hideM e1
        clear i1 e1
        go_wp2_with fail
        refine (HIH.out _ x.body (dep + 1) s1 u A5.out (Kp.below HS.out HB.out hku.out) I1.out (fun q hq => Nat.lt_of_lt_of_le (HS2.out q hq) hku.out.size) (by omega)).mono ?_
        rintro e u2 ⟨hk2, hcase⟩
        have hku2 := hideM (hku.out.trans hk2)
        have p6 := (hk2.cell (p := ⟨wr.heap.size, 6, none⟩) (by show wr.heap.size < _; omega) HWR.out).trans m6
        clear hk2 m5 m6
        rcases hcase with ⟨s2, e2, rfl, i2⟩ | ⟨e2, rfl⟩
        · have I2 := hideM i2
          have E2 := hideM e2
          clear i2 e2
          go_wp2_with fail
          refine (HIH.out _ x.els (dep + 1) s2 u2 A6.out (Kp.below HS.out HB.out hku2.out) I2.out (fun q hq => Nat.lt_of_lt_of_le (HS2.out q hq) hku2.out.size) (by omega)).mono ?_
          rintro e u3 ⟨hk3, hcase⟩
          have hku3 := hideM (hku2.out.trans hk3)
          clear hk3 p6
          rcases hcase with ⟨s3, e3, rfl, i3⟩ | ⟨e3, rfl⟩
          · have HF : Hid (R = rest step d l dep (j + 1) s3) := by
              have := HN.out; rw [E1.out, Option.bind_some, E2.out, Option.bind_some, e3, Option.bind_some] at this; exact this
            have I3 := hideM i3
            clear i3 e3
            go_wp2
            go_roundw
            case rel => exact ⟨j + 1, s3, by omega, by go_num, HF, hku3, I3⟩
            case measure => simp [RowKit.intOf]; omega
          · have HF : R = none := by
              have := HN.out; rw [E1.out, Option.bind_some, E2.out, Option.bind_some, e3, Option.bind_none] at this; exact this
            go_wp2
            exact ⟨rfl, hku3.out, .inr ⟨HF, rfl⟩⟩
        · have HF : R = none := by
            have := HN.out; rw [E1.out, Option.bind_some, e2, Option.bind_none] at this; exact this
          go_wp2
          exact ⟨rfl, hku2.out, .inr ⟨HF, rfl⟩⟩
      · have HF : R = none := by
          have := HN.out; rw [e1, Option.bind_none] at this; exact this
        go_wp2
        exact ⟨rfl, hku.out, .inr ⟨HF, rfl⟩⟩
    · have HE : R = some sj := HK.out.trans (rest_end (by omega))
      have HEE := hideM HE
      clear HE HK
      go_wp2
      go_end0
      exact ⟨HKP.out, .inl ⟨sj, HEE.out, rfl, HSJ.out⟩⟩

theorem pWalkB {σ : Type} (w0 : World) (S : Nat → Prop) (hS : ∀ k, S k → w0.heap.size ≤ k) (Inv : σ → World → Prop) (hI : ∀ s w w', Below w.heap.size w w' → Inv s w → Inv s w')
    (step : σ → Sn → Nat → Option σ) (k : Int) (see : SeeC 27 (fun x y => #[x, y]) w0 S Inv step k) : ∀ (d : Nat), WalkSays (.func (.func 27) #[] #[]) w0 S Inv step k d
  | 0 => fun v l dep s w ⟨o, c, hv⟩ hb hs hS2 hd => by
    subst hv
    exact pWalk0B w0 S Inv step k o c l dep s w hs
  | d + 1 => fun v l dep s w hAt hb hs hS2 hd => pWalkSB w0 S hS Inv hI step k see d (pWalkB w0 S hS Inv hI step k see d) v l dep s w hAt hb hs hS2 hd
end Go.Proofs.YtlpnoelolkbmmaaDoor
