/- QJ3: several texts in one. -/
import Derived.Test.YtlpnoelolkbmmaaDoorQJ2
import Derived.Test.YtlpnoelolkbmmaaDoorQJ1
import Derived.Test.YtlpnoelolkbmmaaDoorQJ0
import Derived.Lib.ValidU
import Derived.Test.YtlpnoelolkbmmaaDoorVL
namespace Go.Proofs.YtlpnoelolkbmmaaDoor
open Go.RowKit Rep
set_option linter.unusedVariables false

set_option maxHeartbeats 2000000 in
theorem pWalkMB {σ : Type} (w0 : World) (S : Nat → Prop) (hS : ∀ k, S k → w0.heap.size ≤ k) (Inv : σ → World → Prop) (hI : ∀ s w w', Below w.heap.size w w' → Inv s w → Inv s w')
    (step : σ → Sn → Nat → Option σ) (k : Int) (see : SeeC 27 (fun x y => #[x, y]) w0 S Inv step k) (d : Nat) (hd : d ≤ 4611686018427387904)
    (v0 v1 v2 v3 v4 v5 v6 v7 v8 v9 : Value) (l : List (Fun d)) (s : σ) (w : World) (hAt : Row 3 (FunAt w0 d) v2 l) (hT : TenSlices v0 v1 v3 v4 v5 v6 v7 v8 v9) (hb : Below w0.heap.size w0 w) (hs : Inv s w) (hS2 : ∀ k, S k → k < w.heap.size) :
    Calls Tryd.prog 26 #[.agg #[v0, v1, v2, v3, v4, v5, v6, v7, v8, v9], .func (.func 27) #[] #[]] w fun e w' =>
      Kp S w w' ∧ ((∃ s', goF step d l s = some s' ∧ e = .returned (.tuple #[]) ∧ Inv s' w') ∨ (goF step d l s = none ∧ e = .panicked (gave k))) := by
  have hlen := hAt.1
  obtain ⟨o, cap2, hv⟩ := Row.len hAt
  have hx := Row.some hAt
  subst hv
  obtain ⟨⟨o0, m0, c0, rfl⟩, ⟨o1, m1, c1, rfl⟩, ⟨o3, m3, c3, rfl⟩, ⟨o4, m4, c4, rfl⟩, ⟨o5, m5, c5, rfl⟩, ⟨o6, m6, c6, rfl⟩, ⟨o7, m7, c7, rfl⟩, ⟨o8, m8, c8, rfl⟩, ⟨o9, m9, c9, rfl⟩⟩ := hT
  obtain ⟨R, hR⟩ : ∃ R, R = goF step d l s := ⟨_, rfl⟩
  rw [← hR]
  have HR : Hid (R = goF step d (l.drop 0) s) := hR
  have HX := hideM hx
  clear hx hAt hR
  generalize hn : l.length = n at *
  have HWk := hideM (pWalkB w0 S hS Inv hI step k see d)
  have HI := hideM hI
  have HS := hideM hS
  have HS2 := hideM hS2
  have HB := hideM hb
  have Hs := hideM hs
  clear see hI hS hb hs hS2
  go_enter Tryd.func26, Tryd.ntmps26
  go_wp2_with fail
  go_loopw [9] (fun i wr => ∃ (j : Nat) (sj : σ), j ≤ n ∧ i = .int .i64 j ∧ Hid (R = goF step d (l.drop j) sj) ∧ Hid (Kp S w wr) ∧ Hid (Inv sj wr)) (fun i _ => n - (RowKit.intOf i).toNat)
  case atStart => exact ⟨0, s, by omega, rfl, HR, (Kp.refl S w).alloc _, HI.out _ _ _ ((Below.refl _ w).alloc (Nat.le_refl _) _) Hs.out⟩
  case round =>
    obtain ⟨j, sj, hj, rfl, HK, HKP, HSJ⟩ := hrel
    by_cases hgo : j < n
    · obtain ⟨b, off, cap3, hv2, hx⟩ := HX.out (by omega)
      injection hv2 with ho h2 h3
      subst ho
      obtain ⟨x, hxk⟩ : ∃ x, l[j]? = some x := ⟨_, List.getElem?_eq_getElem (by omega)⟩
      have hbr := Kp.below HS.out HB.out HKP.out
      have hx' := (hx j x hxk).on hbr
      have c0 := hx'.type
      obtain ⟨lv, c1, a1⟩ := hx'.locals
      obtain ⟨bv', c2', a2⟩ := (hx j x hxk).body
      have c2 := cell_on hbr c2'
      have HN := hideM (HK.out.trans (goF_on hxk))
      obtain ⟨lo, lc, rfl⟩ := Row.len a1
      obtain ⟨bo, bc, rfl⟩ := At.len d bv' x.body a2
      generalize hnb : size d x.body = nb at *
      generalize hnl : x.locals.length = nl at *
      have A2 := hideM a2
      clear hx' h2 h3 HX a1 a2 hxk hnb hnl hbr hx c2' HK
      go_upto_region 4 with fail
      obtain ⟨wa, hwa⟩ : ∃ wa, wa = wr.alloc (Obj.cells #[.int .i64 x.type, .slice lo nl lc, .slice bo nb bc] 31) := ⟨_, rfl⟩
      rw [← hwa]
      have hsz : wa.heap.size = wr.heap.size + 1 := by rw [hwa]; exact size_alloc _ _
      have n2 : wa.cell? ⟨wr.heap.size, 2, none⟩ = some (.slice bo nb bc) := by rw [hwa]; exact new_cell _ _ _ _ _ rfl
      have hka : Hid (Kp S w wa) := by rw [hwa]; exact HKP.out.alloc _
      have hra : Below wr.heap.size wr wa := by rw [hwa]; exact (Below.refl _ wr).alloc (Nat.le_refl _) _
      have HRA := hideM hra
      clear hwa hra c0 c1 c2
      go_wp2_with fail
      refine (HWk.out _ x.body 0 sj wa A2.out (Kp.below HS.out HB.out hka.out) (HI.out _ _ _ HRA.out HSJ.out) (fun q hq => Nat.lt_of_lt_of_le (HS2.out q hq) hka.out.size) (by omega)).mono ?_
      rintro e u ⟨hk1, hcase⟩
      have hku := hideM (hka.out.trans hk1)
      clear hk1
      rcases hcase with ⟨s1, e1, rfl, i1⟩ | ⟨e1, rfl⟩
      · have HF : Hid (R = goF step d (l.drop (j + 1)) s1) := by
          have := HN.out; rw [e1, Option.bind_some] at this; exact this
        have I1 := hideM i1
        clear i1 e1
        go_wp2
        go_roundw
        case rel => exact ⟨j + 1, s1, by omega, by go_num, HF, hku, I1⟩
        case measure => simp [RowKit.intOf]; omega
      · have HF : R = none := by
          have := HN.out; rw [e1, Option.bind_none] at this; exact this
        go_wp2
        exact ⟨rfl, hku.out, .inr ⟨HF, rfl⟩⟩
    · have HE : R = some sj := HK.out.trans (goF_end (by omega))
      have HEE := hideM HE
      clear HE HK
      go_wp2
      go_end0
      exact ⟨HKP.out, .inl ⟨sj, HEE.out, rfl, HSJ.out⟩⟩
end Go.Proofs.YtlpnoelolkbmmaaDoor

namespace Go.Proofs.YtlpnoelolkbmmaaDoor
open Go.RowKit Rep
set_option linter.unusedVariables false

set_option maxHeartbeats 1000000 in
theorem pWalk0C {σ : Type} (w0 : World) (S : Nat → Prop) (Inv : σ → World → Prop) (step : σ → Sn → Nat → Option σ) (k : Int) (o : Option Addr) (c : Nat) (l : IL 0) (dep : Nat) (s : σ) (w : World) (hs : Inv s w) :
    Calls Tryd.prog 42 #[.slice o 0 c, .int .i64 dep, .func (.func 29) #[] #[]] w fun e w' =>
      Kp S w w' ∧ ((∃ s', goI step 0 l dep s = some s' ∧ e = .returned (.tuple #[]) ∧ Inv s' w') ∨ (goI step 0 l dep s = none ∧ e = .panicked (gave k))) := by
  have Hs := hideM hs
  clear hs
  go_enter Tryd.func42, Tryd.ntmps42
  go_wp2_with fail
  go_loopw [10] (fun i wr => i = .int .i64 0 ∧ wr = w) (fun i _ => 0)
  case atStart => exact ⟨rfl, rfl⟩
  case round =>
    obtain ⟨rfl, rfl⟩ := hrel
    go_wp2
    go_end0
    exact ⟨Kp.refl S _, .inl ⟨s, rfl, rfl, Hs.out⟩⟩

set_option maxHeartbeats 2000000 in
theorem pWalkSC {σ : Type} (w0 : World) (S : Nat → Prop) (hS : ∀ k, S k → w0.heap.size ≤ k) (Inv : σ → World → Prop) (hI : ∀ s w w', Below w.heap.size w w' → Inv s w → Inv s w')
    (step : σ → Sn → Nat → Option σ) (k : Int) (see : SeeC 29 (fun x y => #[x, y]) w0 S Inv step k) (d : Nat) (IH : WalkSays (.func (.func 29) #[] #[]) w0 S Inv step k d)
    (v : Value) (l : List (Ins (IL d))) (dep : Nat) (s : σ) (w : World) (hAt : Row 7 (InsAt w0 (At w0 d)) v l) (hb : Below w0.heap.size w0 w) (hs : Inv s w) (hS2 : ∀ k, S k → k < w.heap.size) (hd : dep + (d + 1) ≤ 4611686018427387904) :
    Calls Tryd.prog 42 #[v, .int .i64 dep, .func (.func 29) #[] #[]] w fun e w' =>
      Kp S w w' ∧ ((∃ s', rest step d l dep 0 s = some s' ∧ e = .returned (.tuple #[]) ∧ Inv s' w') ∨ (rest step d l dep 0 s = none ∧ e = .panicked (gave k))) := by
  have hlen := hAt.1
  obtain ⟨o, cap2, hv⟩ := Row.len hAt
  have hx := Row.some hAt
  subst hv
  obtain ⟨R, hR⟩ : ∃ R, R = rest step d l dep 0 s := ⟨_, rfl⟩
  rw [← hR]
  have HR := hideM hR
  have HX := hideM hx
  clear hx hAt hR
  generalize hn : l.length = n at *
  have HSee := hideM see
  have HIH := hideM IH
  have HI := hideM hI
  have HS := hideM hS
  have HS2 := hideM hS2
  have HB := hideM hb
  have Hs := hideM hs
  clear see IH hI hS hb hs hS2
  go_enter Tryd.func42, Tryd.ntmps42
  go_wp2_with fail
  go_loopw [10] (fun i wr => ∃ (j : Nat) (sj : σ), j ≤ n ∧ i = .int .i64 j ∧ Hid (R = rest step d l dep j sj) ∧ Hid (Kp S w wr) ∧ Hid (Inv sj wr)) (fun i _ => n - (RowKit.intOf i).toNat)
  case atStart => exact ⟨0, s, by omega, rfl, HR, Kp.refl S w, Hs⟩
  case round =>
    obtain ⟨j, sj, hj, rfl, HK, HKP, HSJ⟩ := hrel
    by_cases hgo : j < n
    · obtain ⟨b, off, cap3, hv2, hx⟩ := HX.out (by omega)
      injection hv2 with ho h2 h3
      subst ho
      obtain ⟨x, hxk⟩ : ∃ x, l[j]? = some x := ⟨_, List.getElem?_eq_getElem (by omega)⟩
      have hbr := Kp.below HS.out HB.out HKP.out
      have hx' := (hx j x hxk).on hbr (At.on hbr d)
      have c0 := hx'.op
      have c1 := hx'.a
      have c2 := hx'.b
      have c3 := hx'.n
      obtain ⟨lv, c4, a4⟩ := hx'.labels
      obtain ⟨bv, c5, _⟩ := hx'.body
      obtain ⟨ev, c6, _⟩ := hx'.els
      obtain ⟨bv', c5', a5⟩ := (hx j x hxk).body
      obtain ⟨ev', c6', a6⟩ := (hx j x hxk).els
      obtain rfl : bv' = bv := Option.some.inj ((cell_on hbr c5').symm.trans c5)
      obtain rfl : ev' = ev := Option.some.inj ((cell_on hbr c6').symm.trans c6)
      have HN := hideM (HK.out.trans (rest_on hxk))
      obtain ⟨lo, lc, rfl⟩ := Row.len a4
      obtain ⟨bo, bc, rfl⟩ := At.len d bv' x.body a5
      obtain ⟨eo, ec, rfl⟩ := At.len d ev' x.els a6
      have HSN := HSee.out sj (sn x) (.slice lo x.labels.length lc) (.slice bo (size d x.body) bc) (.slice eo (size d x.els) ec) dep
      generalize hnb : size d x.body = nb at *
      generalize hne : size d x.els = ne at *
      generalize hnl : x.labels.length = nl at *
      have A4 := hideM a4
      have A5 := hideM a5
      have A6 := hideM a6
      have HNB := hideM hnb
      have HNE := hideM hne
      have HNL := hideM hnl
      have HBR := hideM hbr
      have HSX := hideM HSN
      clear hx' h2 h3 HX a4 a5 a6 hxk hnb hne hnl hbr hx c5' c6' HSN HK
      go_upto_region 3 with fail
      obtain ⟨wa, hwa⟩ : ∃ wa, wa = wr.alloc (Obj.cells #[.int .i64 x.op, .int .i64 x.a, .int .i64 x.b, .int .i64 x.n, .slice lo nl lc, .slice bo nb bc, .slice eo ne ec] 26) := ⟨_, rfl⟩
      rw [← hwa]
      have hsz : wa.heap.size = wr.heap.size + 1 := by rw [hwa]; exact size_alloc _ _
      have n0 : wa.cell? ⟨wr.heap.size, 0, none⟩ = some (.int .i64 x.op) := by rw [hwa]; exact new_cell _ _ _ _ _ rfl
      have n1 : wa.cell? ⟨wr.heap.size, 1, none⟩ = some (.int .i64 x.a) := by rw [hwa]; exact new_cell _ _ _ _ _ rfl
      have n2 : wa.cell? ⟨wr.heap.size, 2, none⟩ = some (.int .i64 x.b) := by rw [hwa]; exact new_cell _ _ _ _ _ rfl
      have n3 : wa.cell? ⟨wr.heap.size, 3, none⟩ = some (.int .i64 x.n) := by rw [hwa]; exact new_cell _ _ _ _ _ rfl
      have n4 : wa.cell? ⟨wr.heap.size, 4, none⟩ = some (.slice lo nl lc) := by rw [hwa]; exact new_cell _ _ _ _ _ rfl
      have n5 : wa.cell? ⟨wr.heap.size, 5, none⟩ = some (.slice bo nb bc) := by rw [hwa]; exact new_cell _ _ _ _ _ rfl
      have n6 : wa.cell? ⟨wr.heap.size, 6, none⟩ = some (.slice eo ne ec) := by rw [hwa]; exact new_cell _ _ _ _ _ rfl
      have hka : Hid (Kp S w wa) := by rw [hwa]; exact HKP.out.alloc _
      have hra : Below wr.heap.size wr wa := by rw [hwa]; exact (Below.refl _ wr).alloc (Nat.le_refl _) _
      have HRA := hideM hra
      clear hwa hra c0 c1 c2 c3 c4 c5 c6
      go_wp2_with fail
      refine (HSX.out wa (Kp.below HS.out HB.out hka.out) (HI.out _ _ _ HRA.out HSJ.out) (A4.out.on HRA.out) ⟨bo, bc, by rw [← HNB.out]; rfl⟩ ⟨eo, ec, by rw [← HNE.out]; rfl⟩ (by omega)).mono ?_
      rintro e u ⟨hk1, hcase⟩
      have HK1 := hideM hk1
      have hwr : ¬ S wr.heap.size := fun hh => by have h1 := HS2.out _ hh; have h2 := HKP.out.size; omega
      have HWR := hideM hwr
      have hku := hideM (hka.out.trans hk1)
      have m5 := (hk1.cell (p := ⟨wr.heap.size, 5, none⟩) (by show wr.heap.size < _; omega) hwr).trans n5
      have m6 := (hk1.cell (p := ⟨wr.heap.size, 6, none⟩) (by show wr.heap.size < _; omega) hwr).trans n6
      have hus := hk1.size
      clear hk1 hwr n0 n1 n2 n3 n4 n5 n6
      rcases hcase with ⟨s1, e1, rfl, i1⟩ | ⟨e1, rfl⟩
      · have I1 := hideM i1
        have E1 := hideM e1
        clear i1 e1
        go_wp2_with fail
        refine (HIH.out _ x.body (dep + 1) s1 u A5.out (Kp.below HS.out HB.out hku.out) I1.out (fun q hq => Nat.lt_of_lt_of_le (HS2.out q hq) hku.out.size) (by omega)).mono ?_
        rintro e u2 ⟨hk2, hcase⟩
        have hku2 := hideM (hku.out.trans hk2)
        have p6 := (hk2.cell (p := ⟨wr.heap.size, 6, none⟩) (by show wr.heap.size < _; omega) HWR.out).trans m6
        clear hk2 m5 m6
        rcases hcase with ⟨s2, e2, rfl, i2⟩ | ⟨e2, rfl⟩
        · have I2 := hideM i2
          have E2 := hideM e2
          clear i2 e2
          go_wp2_with fail
          refine (HIH.out _ x.els (dep + 1) s2 u2 A6.out (Kp.below HS.out HB.out hku2.out) I2.out (fun q hq => Nat.lt_of_lt_of_le (HS2.out q hq) hku2.out.size) (by omega)).mono ?_
          rintro e u3 ⟨hk3, hcase⟩
          have hku3 := hideM (hku2.out.trans hk3)
          clear hk3 p6
          rcases hcase with ⟨s3, e3, rfl, i3⟩ | ⟨e3, rfl⟩
          · have HF : Hid (R = rest step d l dep (j + 1) s3) := by
              have := HN.out; rw [E1.out, Option.bind_some, E2.out, Option.bind_some, e3, Option.bind_some] at this; exact this
            have I3 := hideM i3
            clear i3 e3
            go_wp2
            go_roundw
            case rel => exact ⟨j + 1, s3, by omega, by go_num, HF, hku3, I3⟩
            case measure => simp [RowKit.intOf]; omega
          · have HF : R = none := by
              have := HN.out; rw [E1.out, Option.bind_some, E2.out, Option.bind_some, e3, Option.bind_none] at this; exact this
            go_wp2
            exact ⟨rfl, hku3.out, .inr ⟨HF, rfl⟩⟩
        · have HF : R = none := by
            have := HN.out; rw [E1.out, Option.bind_some, e2, Option.bind_none] at this; exact this
          go_wp2
          exact ⟨rfl, hku2.out, .inr ⟨HF, rfl⟩⟩
      · have HF : R = none := by
          have := HN.out; rw [e1, Option.bind_none] at this; exact this
        go_wp2
        exact ⟨rfl, hku.out, .inr ⟨HF, rfl⟩⟩
    · have HE : R = some sj := HK.out.trans (rest_end (by omega))
      have HEE := hideM HE
      clear HE HK
      go_wp2
      go_end0
      exact ⟨HKP.out, .inl ⟨sj, HEE.out, rfl, HSJ.out⟩⟩

theorem pWalkC {σ : Type} (w0 : World) (S : Nat → Prop) (hS : ∀ k, S k → w0.heap.size ≤ k) (Inv : σ → World → Prop) (hI : ∀ s w w', Below w.heap.size w w' → Inv s w → Inv s w')
    (step : σ → Sn → Nat → Option σ) (k : Int) (see : SeeC 29 (fun x y => #[x, y]) w0 S Inv step k) : ∀ (d : Nat), WalkSays (.func (.func 29) #[] #[]) w0 S Inv step k d
  | 0 => fun v l dep s w ⟨o, c, hv⟩ hb hs hS2 hd => by
    subst hv
    exact pWalk0C w0 S Inv step k o c l dep s w hs
  | d + 1 => fun v l dep s w hAt hb hs hS2 hd => pWalkSC w0 S hS Inv hI step k see d (pWalkC w0 S hS Inv hI step k see d) v l dep s w hAt hb hs hS2 hd
end Go.Proofs.YtlpnoelolkbmmaaDoor

namespace Go.Proofs.YtlpnoelolkbmmaaDoor
open Go.RowKit Rep
set_option linter.unusedVariables false

set_option maxHeartbeats 2000000 in
theorem pWalkMC {σ : Type} (w0 : World) (S : Nat → Prop) (hS : ∀ k, S k → w0.heap.size ≤ k) (Inv : σ → World → Prop) (hI : ∀ s w w', Below w.heap.size w w' → Inv s w → Inv s w')
    (step : σ → Sn → Nat → Option σ) (k : Int) (see : SeeC 29 (fun x y => #[x, y]) w0 S Inv step k) (d : Nat) (hd : d ≤ 4611686018427387904)
    (v0 v1 v2 v3 v4 v5 v6 v7 v8 v9 : Value) (l : List (Fun d)) (s : σ) (w : World) (hAt : Row 3 (FunAt w0 d) v2 l) (hT : TenSlices v0 v1 v3 v4 v5 v6 v7 v8 v9) (hb : Below w0.heap.size w0 w) (hs : Inv s w) (hS2 : ∀ k, S k → k < w.heap.size) :
    Calls Tryd.prog 26 #[.agg #[v0, v1, v2, v3, v4, v5, v6, v7, v8, v9], .func (.func 29) #[] #[]] w fun e w' =>
      Kp S w w' ∧ ((∃ s', goF step d l s = some s' ∧ e = .returned (.tuple #[]) ∧ Inv s' w') ∨ (goF step d l s = none ∧ e = .panicked (gave k))) := by
  have hlen := hAt.1
  obtain ⟨o, cap2, hv⟩ := Row.len hAt
  have hx := Row.some hAt
  subst hv
  obtain ⟨⟨o0, m0, c0, rfl⟩, ⟨o1, m1, c1, rfl⟩, ⟨o3, m3, c3, rfl⟩, ⟨o4, m4, c4, rfl⟩, ⟨o5, m5, c5, rfl⟩, ⟨o6, m6, c6, rfl⟩, ⟨o7, m7, c7, rfl⟩, ⟨o8, m8, c8, rfl⟩, ⟨o9, m9, c9, rfl⟩⟩ := hT
  obtain ⟨R, hR⟩ : ∃ R, R = goF step d l s := ⟨_, rfl⟩
  rw [← hR]
  have HR : Hid (R = goF step d (l.drop 0) s) := hR
  have HX := hideM hx
  clear hx hAt hR
  generalize hn : l.length = n at *
  have HWk := hideM (pWalkC w0 S hS Inv hI step k see d)
  have HI := hideM hI
  have HS := hideM hS
  have HS2 := hideM hS2
  have HB := hideM hb
  have Hs := hideM hs
  clear see hI hS hb hs hS2
  go_enter Tryd.func26, Tryd.ntmps26
  go_wp2_with fail
  go_loopw [9] (fun i wr => ∃ (j : Nat) (sj : σ), j ≤ n ∧ i = .int .i64 j ∧ Hid (R = goF step d (l.drop j) sj) ∧ Hid (Kp S w wr) ∧ Hid (Inv sj wr)) (fun i _ => n - (RowKit.intOf i).toNat)
  case atStart => exact ⟨0, s, by omega, rfl, HR, (Kp.refl S w).alloc _, HI.out _ _ _ ((Below.refl _ w).alloc (Nat.le_refl _) _) Hs.out⟩
  case round =>
    obtain ⟨j, sj, hj, rfl, HK, HKP, HSJ⟩ := hrel
    by_cases hgo : j < n
    · obtain ⟨b, off, cap3, hv2, hx⟩ := HX.out (by omega)
      injection hv2 with ho h2 h3
      subst ho
      obtain ⟨x, hxk⟩ : ∃ x, l[j]? = some x := ⟨_, List.getElem?_eq_getElem (by omega)⟩
      have hbr := Kp.below HS.out HB.out HKP.out
      have hx' := (hx j x hxk).on hbr
      have c0 := hx'.type
      obtain ⟨lv, c1, a1⟩ := hx'.locals
      obtain ⟨bv', c2', a2⟩ := (hx j x hxk).body
      have c2 := cell_on hbr c2'
      have HN := hideM (HK.out.trans (goF_on hxk))
      obtain ⟨lo, lc, rfl⟩ := Row.len a1
      obtain ⟨bo, bc, rfl⟩ := At.len d bv' x.body a2
      generalize hnb : size d x.body = nb at *
      generalize hnl : x.locals.length = nl at *
      have A2 := hideM a2
      clear hx' h2 h3 HX a1 a2 hxk hnb hnl hbr hx c2' HK
      go_upto_region 4 with fail
      obtain ⟨wa, hwa⟩ : ∃ wa, wa = wr.alloc (Obj.cells #[.int .i64 x.type, .slice lo nl lc, .slice bo nb bc] 31) := ⟨_, rfl⟩
      rw [← hwa]
      have hsz : wa.heap.size = wr.heap.size + 1 := by rw [hwa]; exact size_alloc _ _
      have n2 : wa.cell? ⟨wr.heap.size, 2, none⟩ = some (.slice bo nb bc) := by rw [hwa]; exact new_cell _ _ _ _ _ rfl
      have hka : Hid (Kp S w wa) := by rw [hwa]; exact HKP.out.alloc _
      have hra : Below wr.heap.size wr wa := by rw [hwa]; exact (Below.refl _ wr).alloc (Nat.le_refl _) _
      have HRA := hideM hra
      clear hwa hra c0 c1 c2
      go_wp2_with fail
      refine (HWk.out _ x.body 0 sj wa A2.out (Kp.below HS.out HB.out hka.out) (HI.out _ _ _ HRA.out HSJ.out) (fun q hq => Nat.lt_of_lt_of_le (HS2.out q hq) hka.out.size) (by omega)).mono ?_
      rintro e u ⟨hk1, hcase⟩
      have hku := hideM (hka.out.trans hk1)
      clear hk1
      rcases hcase with ⟨s1, e1, rfl, i1⟩ | ⟨e1, rfl⟩
      · have HF : Hid (R = goF step d (l.drop (j + 1)) s1) := by
          have := HN.out; rw [e1, Option.bind_some] at this; exact this
        have I1 := hideM i1
        clear i1 e1
        go_wp2
        go_roundw
        case rel => exact ⟨j + 1, s1, by omega, by go_num, HF, hku, I1⟩
        case measure => simp [RowKit.intOf]; omega
      · have HF : R = none := by
          have := HN.out; rw [e1, Option.bind_none] at this; exact this
        go_wp2
        exact ⟨rfl, hku.out, .inr ⟨HF, rfl⟩⟩
    · have HE : R = some sj := HK.out.trans (goF_end (by omega))
      have HEE := hideM HE
      clear HE HK
      go_wp2
      go_end0
      exact ⟨HKP.out, .inl ⟨sj, HEE.out, rfl, HSJ.out⟩⟩
end Go.Proofs.YtlpnoelolkbmmaaDoor

namespace Go.Proofs.YtlpnoelolkbmmaaDoor
open Go.RowKit Rep
set_option linter.unusedVariables false

theorem assert_yes (k : Int) (w : World) : (Instr.typeAssert (.iface 41 (.int .i64 k)) 20 41 true).run Tryd.prog w = .ok (.tuple #[.int .i64 k, .bool true]) w := by
  kernel_rfl
theorem assert_no (w : World) : (Instr.typeAssert .nilIface 20 41 true).run Tryd.prog w = .ok (.tuple #[.int .i64 0, .bool false]) w := by
  kernel_rfl

theorem checkCatch (p : Addr) (x k : Int) (older : List PanicEntry) (w : World) (hc : w.cell? p = some (.int .i64 x)) (hz : w.frozen? p = false) :
    CallsD Tryd.prog 23 #[.pointer (some p)] (.panicking ({ v := .iface 41 (.int .i64 k), recovered := false } :: older)) w fun e u' w' =>
      e = .returned (.tuple #[]) ∧ u' = .panicking ({ v := .iface 41 (.int .i64 k), recovered := true } :: older) ∧ w' = w.setCell p (.int .i64 k) := by
  refine callsD_of_wpS Tryd.func23 rfl fun c₀ cs hu => ?_
  apply wpS_seq
  apply wpS_region
  simp [wpOpsS, go_sem, recoverD, hu, Tryd.ntmps23, Exit.thenS, assert_yes]
  apply wpS_seq
  apply wpS_region
  simp [wpOpsS, go_sem, Exit.thenS]
  refine wpS_cond (t := true) (by simp [Act.eval, Array.replicate]) ?_
  simp only [if_true]
  apply wpS_region
  simp [wpOpsS, go_sem, hc, hz, bodyPostS, results, Tryd.results23]

theorem checkIdle (p : Addr) (w : World) :
    CallsD Tryd.prog 23 #[.pointer (some p)] .returning w fun e u' w' => e = .returned (.tuple #[]) ∧ u' = .returning ∧ w' = w := by
  refine callsD_of_wpS Tryd.func23 rfl fun c₀ cs hu => ?_
  apply wpS_seq
  apply wpS_region
  simp [wpOpsS, go_sem, recoverD, hu, Tryd.ntmps23, Exit.thenS, assert_no]
  apply wpS_seq
  apply wpS_region
  simp [wpOpsS, go_sem, Exit.thenS]
  refine wpS_cond (t := false) (by simp [Act.eval, Array.replicate]) ?_
  simp only [Bool.false_eq_true, if_false]
  refine wpS_of_wp (wp_skip ?_)
  cases c₀
  simp_all [bodyPostS, results, Tryd.results23]

namespace Rep
def cstOk {d : Nat} (x : Ins (IL d)) : Bool := cst x.op && okS (sn x)
def shT (t : FT) : Bool := t.params.all typ && t.results.all typ
def shI (i : Imp) : Bool := (nm i.mod && (nm i.name && true)) && (idx i.type && true)
def shF {d : Nat} (f : Fun d) : Bool := (idx f.type && true) && f.locals.all typ
def shL (l : Lim) : Bool := (idx l.min && (idx l.max && true)) && (l.has || l.max == 0)
def shG {d : Nat} (g : Glo d) : Bool := (typ g.type && true) && cstOk g.init
def shE (e : Exp) : Bool := (nm e.name && true) && ((decide (0 ≤ e.kind) && decide (e.kind ≤ 3)) && (idx e.index && true))
def shM {d : Nat} (m : Mod d) : Bool :=
  m.types.all shT && (m.imports.all shI && (m.funcs.all shF && ((m.tables ++ m.mems).all shL && (m.globals.all shG && (m.exports.all shE && (m.start.all idx && (m.elems.all (fun e => cstOk e.offset && e.funcs.all idx) && m.datas.all fun x => cstOk x.offset)))))))
def chk {d : Nat} (m : Mod d) : Int :=
  if fewM m = true then
    match goF stepCount d m.funcs 0 with
    | none => 3
    | some _ =>
      match goF stepLabels d m.funcs () with
      | none => 3
      | some _ =>
        match goF stepDepth d m.funcs () with
        | none => 4
        | some _ =>
          if shM m = true then
            match goF stepForm d m.funcs () with
            | none => 30
            | some _ => 0
          else 30
  else 3
structure CkSt (w : World) (v0 v1 v2 v3 v4 v5 v6 v7 v8 v9 : Value) (u : World) : Prop where
  box : Box w v0 v1 v2 v3 v4 v5 v6 v7 v8 v9 u
  err : u.cell? ⟨w.heap.size + 1, 0, none⟩ = some (.int .i64 0)
  fz : u.frozen? ⟨w.heap.size + 1, 0, none⟩ = false
theorem CkSt.on {w : World} {v0 v1 v2 v3 v4 v5 v6 v7 v8 v9 : Value} {u u' : World} (hb : Below u.heap.size u u') (h : CkSt w v0 v1 v2 v3 v4 v5 v6 v7 v8 v9 u) : CkSt w v0 v1 v2 v3 v4 v5 v6 v7 v8 v9 u' :=
  ⟨h.box.on hb, cell_on hb h.err, (hb.frozen (p := ⟨w.heap.size + 1, 0, none⟩) (World.block_lt_of_cell? _ _ h.err)).trans h.fz⟩
theorem CkSt.start (w : World) (t t2 : TypeId) (v0 v1 v2 v3 v4 v5 v6 v7 v8 v9 : Value) : CkSt w v0 v1 v2 v3 v4 v5 v6 v7 v8 v9 ((w.alloc (.cells #[v0, v1, v2, v3, v4, v5, v6, v7, v8, v9] t)).alloc (.cells #[.int .i64 0] t2)) :=
  ⟨(Box.start w t v0 v1 v2 v3 v4 v5 v6 v7 v8 v9).new _, by rw [World.cell?_alloc_at _ _ _ _ (by simp)]; rfl, by rw [World.frozen?_alloc_at _ _ _ _ (by simp)]⟩
end Rep

set_option maxHeartbeats 4000000 in
theorem pCheck {I : World → Prop} (C : FormC I) (d : Nat) (hd : d ≤ 4611686018427387904) (v0 v1 v2 v3 v4 v5 v6 v7 v8 v9 : Value) (m : Mod d) (w : World) (hI : I w) (hM : ModAt w d v0 v1 v2 v3 v4 v5 v6 v7 v8 v9 m) (hsz : ∀ x ∈ m.datas, x.bytes.size ≤ 9223372036854775807)
    (hSh : fewM m = true → ∀ w', Below w.heap.size w w' → Calls Tryd.prog 31 #[.agg #[v0, v1, v2, v3, v4, v5, v6, v7, v8, v9]] w' fun e u => Needs (shM m) 30 e ∧ Below w'.heap.size w' u) :
    Calls Tryd.prog 12 #[.agg #[v0, v1, v2, v3, v4, v5, v6, v7, v8, v9]] w fun e w' => e = .returned (.int .i64 (chk m)) ∧ Below w.heap.size w w' := by
  have HT := hideM hM.ten
  have HM := hideM hM
  have HII := hideM hI
  have HFew := hideM fun (w' : World) (h : Below w.heap.size w w') => pneedFew d v0 v1 v2 v3 v4 v5 v6 v7 v8 v9 m w' (hM.on h) hsz
  have HCnt := hideM fun (w' : World) (h : Below w.heap.size w w') => pcountInstructions d hd v0 v1 v2 v3 v4 v5 v6 v7 v8 v9 m.funcs w' (hM.on h).funcs hM.ten
  have HLab := hideM fun (w' : World) (h : Below w.heap.size w w') => pWalkMB w' (fun _ => False) (fun _ hh => hh.elim) (fun (_ : Unit) _ => True) (fun _ _ _ _ _ => trivial) stepLabels 3 (seeLabels w') d hd v0 v1 v2 v3 v4 v5 v6 v7 v8 v9 m.funcs () w' (hM.on h).funcs hM.ten (Below.refl _ _) trivial (fun _ hh => hh.elim)
  have HDep := hideM fun (w' : World) (h : Below w.heap.size w w') => pWalkMC w' (fun _ => False) (fun _ hh => hh.elim) (fun (_ : Unit) _ => True) (fun _ _ _ _ _ => trivial) stepDepth 4 (seeDepth w') d hd v0 v1 v2 v3 v4 v5 v6 v7 v8 v9 m.funcs () w' (hM.on h).funcs hM.ten (Below.refl _ _) trivial (fun _ hh => hh.elim)
  have HFor := hideM fun (w' : World) (h : Below w.heap.size w w') => pWalkMD w' (fun _ => False) (fun _ hh => hh.elim) (fun (_ : Unit) u => I u) (fun _ _ _ hb hi => C.keep hb hi) stepForm 30 (seeForm C w') d hd v0 v1 v2 v3 v4 v5 v6 v7 v8 v9 m.funcs () w' (hM.on h).funcs hM.ten (Below.refl _ _) (C.keep h hI) (fun _ hh => hh.elim)
  have HSh := hideM hSh
  have HS0 := hideM (CkSt.start w 40 41 v0 v1 v2 v3 v4 v5 v6 v7 v8 v9)
  obtain ⟨R, hR⟩ : ∃ R, R = chk m := ⟨_, rfl⟩
  rw [← hR]
  unfold chk at hR
  have HR := hideM hR
  obtain ⟨o2, n2, c2, rfl⟩ := Row.slice hM.funcs
  obtain ⟨⟨o0, n0, c0, rfl⟩, ⟨o1, n1, c1, rfl⟩, ⟨o3, n3, c3, rfl⟩, ⟨o4, n4, c4, rfl⟩, ⟨o5, n5, c5, rfl⟩, ⟨o6, n6, c6, rfl⟩, ⟨o7, n7, c7, rfl⟩, ⟨o8, n8, c8, rfl⟩, ⟨o9, n9, c9, rfl⟩⟩ := hM.ten
  clear hM hR hsz hSh hI
  generalize fewM m = r1 at *
  generalize goF stepCount d m.funcs 0 = r2 at *
  generalize goF stepLabels d m.funcs () = r3 at *
  generalize goF stepDepth d m.funcs () = r4 at *
  generalize shM m = r5 at *
  generalize goF stepForm d m.funcs () = r6 at *
  have hmf : ∀ (fn : Fn) (first cap : Array Value) (w : World), (Instr.makeFunc fn first cap).run Tryd.prog w = .ok (.func fn first cap) w := fun _ _ _ _ => rfl
  go_enter_defers Tryd.func12, Tryd.ntmps12
  go_upto_region 2 with fail
  obtain ⟨wb, hwb⟩ : ∃ wb, wb = (w.alloc (.cells #[.slice o0 n0 c0, .slice o1 n1 c1, .slice o2 n2 c2, .slice o3 n3 c3, .slice o4 n4 c4, .slice o5 n5 c5, .slice o6 n6 c6, .slice o7 n7 c7, .slice o8 n8 c8, .slice o9 n9 c9] 40)).alloc (.cells #[.int .i64 0] 41) := ⟨_, rfl⟩
  rw [← hwb]
  rw [← hwb] at HS0
  clear hwb

  obtain ⟨⟨q0, q1, q2, q3, q4, q5, q6, q7, q8, q9, qb⟩, qe, qz⟩ := HS0.out
  clear qb
  go_wp2_with fail
  refine (HFew.out _ HS0.out.box.bel).mono ?_
  rintro e w1 ⟨hN, hbb⟩
  have HS1 := hideM (HS0.out.on hbb)
  clear hbb q0 q1 q2 q3 q4 q5 q6 q7 q8 q9 qe qz HS0 HFew
  rcases hN with ⟨rfl, rfl⟩ | ⟨rfl, rfl⟩
  rotate_left
  · have HF : R = 3 := by rw [HR.out]; rfl
    obtain ⟨_, qe, qz⟩ := HS1.out
    have HQB := hideM HS1.out.box.bel
    clear HR
    subst HF
    go_wp2_with fail
    refine leaves_cons (f := 23) (args := #[.pointer (some ⟨w.heap.size + 1, 0, none⟩)]) (by simp) (by simp [go_sem]) ?_
    refine (checkCatch ⟨w.heap.size + 1, 0, none⟩ 0 3 [] _ qe qz).mono ?_
    rintro e u' w'' ⟨rfl, rfl, rfl⟩
    simp [Leaves, settle, results, Tryd.results12, go_sem, qe]
    exact below_set HQB.out 0 _
  obtain ⟨⟨q0, q1, q2, q3, q4, q5, q6, q7, q8, q9, qb⟩, qe, qz⟩ := HS1.out
  clear qb
  go_wp2_with fail
  refine (HCnt.out _ HS1.out.box.bel).mono ?_
  rintro e w2 ⟨hbb, hN⟩
  have HS2 := hideM (HS1.out.on hbb)
  clear hbb q0 q1 q2 q3 q4 q5 q6 q7 q8 q9 qe qz HS1 HCnt
  rcases hN with ⟨cc, rfl, hcc, rfl⟩ | ⟨rfl, rfl⟩
  rotate_left
  · have HF : R = 3 := by rw [HR.out]; rfl
    obtain ⟨_, qe, qz⟩ := HS2.out
    have HQB := hideM HS2.out.box.bel
    clear HR
    subst HF
    go_wp2_with fail
    refine leaves_cons (f := 23) (args := #[.pointer (some ⟨w.heap.size + 1, 0, none⟩)]) (by simp) (by simp [go_sem]) ?_
    refine (checkCatch ⟨w.heap.size + 1, 0, none⟩ 0 3 [] _ qe qz).mono ?_
    rintro e u' w'' ⟨rfl, rfl, rfl⟩
    simp [Leaves, settle, results, Tryd.results12, go_sem, qe]
    exact below_set HQB.out 0 _
  obtain ⟨⟨q0, q1, q2, q3, q4, q5, q6, q7, q8, q9, qb⟩, qe, qz⟩ := HS2.out
  clear qb
  go_wp2_with fail
  refine (HLab.out _ HS2.out.box.bel).mono ?_
  rintro e w3 ⟨hkk, hN⟩
  have hbb := Kp.to_below hkk
  clear hkk
  have HS3 := hideM (HS2.out.on hbb)
  clear hbb q0 q1 q2 q3 q4 q5 q6 q7 q8 q9 qe qz HS2 HLab
  rcases hN with ⟨ss, rfl, rfl, _⟩ | ⟨rfl, rfl⟩
  rotate_left
  · have HF : R = 3 := by rw [HR.out]; rfl
    obtain ⟨_, qe, qz⟩ := HS3.out
    have HQB := hideM HS3.out.box.bel
    clear HR
    subst HF
    go_wp2_with fail
    refine leaves_cons (f := 23) (args := #[.pointer (some ⟨w.heap.size + 1, 0, none⟩)]) (by simp) (by simp [go_sem]) ?_
    refine (checkCatch ⟨w.heap.size + 1, 0, none⟩ 0 3 [] _ qe qz).mono ?_
    rintro e u' w'' ⟨rfl, rfl, rfl⟩
    simp [Leaves, settle, results, Tryd.results12, go_sem, qe]
    exact below_set HQB.out 0 _
  obtain ⟨⟨q0, q1, q2, q3, q4, q5, q6, q7, q8, q9, qb⟩, qe, qz⟩ := HS3.out
  clear qb
  go_wp2_with fail
  refine (HDep.out _ HS3.out.box.bel).mono ?_
  rintro e w4 ⟨hkk, hN⟩
  have hbb := Kp.to_below hkk
  clear hkk
  have HS4 := hideM (HS3.out.on hbb)
  clear hbb q0 q1 q2 q3 q4 q5 q6 q7 q8 q9 qe qz HS3 HDep
  rcases hN with ⟨ss, rfl, rfl, _⟩ | ⟨rfl, rfl⟩
  rotate_left
  · have HF : R = 4 := by rw [HR.out]; rfl
    obtain ⟨_, qe, qz⟩ := HS4.out
    have HQB := hideM HS4.out.box.bel
    clear HR
    subst HF
    go_wp2_with fail
    refine leaves_cons (f := 23) (args := #[.pointer (some ⟨w.heap.size + 1, 0, none⟩)]) (by simp) (by simp [go_sem]) ?_
    refine (checkCatch ⟨w.heap.size + 1, 0, none⟩ 0 4 [] _ qe qz).mono ?_
    rintro e u' w'' ⟨rfl, rfl, rfl⟩
    simp [Leaves, settle, results, Tryd.results12, go_sem, qe]
    exact below_set HQB.out 0 _
  obtain ⟨⟨q0, q1, q2, q3, q4, q5, q6, q7, q8, q9, qb⟩, qe, qz⟩ := HS4.out
  clear qb
  go_wp2_with fail
  refine (HSh.out (by first | trivial | rfl) _ HS4.out.box.bel).mono ?_
  rintro e w5 ⟨hN, hbb⟩
  have HS5 := hideM (HS4.out.on hbb)
  clear hbb q0 q1 q2 q3 q4 q5 q6 q7 q8 q9 qe qz HS4 HSh
  rcases hN with ⟨rfl, rfl⟩ | ⟨rfl, rfl⟩
  rotate_left
  · have HF : R = 30 := by rw [HR.out]; rfl
    obtain ⟨_, qe, qz⟩ := HS5.out
    have HQB := hideM HS5.out.box.bel
    clear HR
    subst HF
    go_wp2_with fail
    refine leaves_cons (f := 23) (args := #[.pointer (some ⟨w.heap.size + 1, 0, none⟩)]) (by simp) (by simp [go_sem]) ?_
    refine (checkCatch ⟨w.heap.size + 1, 0, none⟩ 0 30 [] _ qe qz).mono ?_
    rintro e u' w'' ⟨rfl, rfl, rfl⟩
    simp [Leaves, settle, results, Tryd.results12, go_sem, qe]
    exact below_set HQB.out 0 _
  obtain ⟨⟨q0, q1, q2, q3, q4, q5, q6, q7, q8, q9, qb⟩, qe, qz⟩ := HS5.out
  clear qb
  go_wp2_with fail
  refine (HFor.out _ HS5.out.box.bel).mono ?_
  rintro e w6 ⟨hkk, hN⟩
  have hbb := Kp.to_below hkk
  clear hkk
  have HS6 := hideM (HS5.out.on hbb)
  clear hbb q0 q1 q2 q3 q4 q5 q6 q7 q8 q9 qe qz HS5 HFor
  rcases hN with ⟨ss, rfl, rfl, _⟩ | ⟨rfl, rfl⟩
  rotate_left
  · have HF : R = 30 := by rw [HR.out]; rfl
    obtain ⟨_, qe, qz⟩ := HS6.out
    have HQB := hideM HS6.out.box.bel
    clear HR
    subst HF
    go_wp2_with fail
    refine leaves_cons (f := 23) (args := #[.pointer (some ⟨w.heap.size + 1, 0, none⟩)]) (by simp) (by simp [go_sem]) ?_
    refine (checkCatch ⟨w.heap.size + 1, 0, none⟩ 0 30 [] _ qe qz).mono ?_
    rintro e u' w'' ⟨rfl, rfl, rfl⟩
    simp [Leaves, settle, results, Tryd.results12, go_sem, qe]
    exact below_set HQB.out 0 _
  have HF : R = 0 := by rw [HR.out]; rfl
  obtain ⟨_, qe, qz⟩ := HS6.out
  have HQB := hideM HS6.out.box.bel
  clear HR
  subst HF
  go_wp2_with fail
  refine leaves_cons (f := 23) (args := #[.pointer (some ⟨w.heap.size + 1, 0, none⟩)]) (by simp) (by simp [go_sem]) ?_
  refine (checkIdle ⟨w.heap.size + 1, 0, none⟩ _).mono ?_
  rintro e u' w'' ⟨rfl, rfl, rfl⟩
  simp [Leaves, settle, results, Tryd.results12, go_sem, qe]
  exact below_set HQB.out 0 _
end Go.Proofs.YtlpnoelolkbmmaaDoor
