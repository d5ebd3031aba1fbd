/- The program's walk over all functions of a module, with one of its ways to see instructions. -/
import Derived.Test.YtloelineidlenaaGreatDoorW2a
import Derived.Test.YtloelineidlenaaGreatDoorW5
namespace Go.Proofs.YtloelineidlenaaGreatDoor
open Go.RowKit Rep
set_option linter.unusedVariables false

set_option maxHeartbeats 2000000 in
theorem pWalkMA {σ : Type} (cp : Value) (w0 : World) (S : Nat → Prop) (hS : ∀ k, S k → w0.heap.size ≤ k) (Inv : σ → World → Prop) (hI : ∀ s w w', Below w.heap.size w w' → Inv s w → Inv s w')
    (step : σ → Sn → Nat → Option σ) (k : Int) (see : SeeC 76 (fun x y => #[x, y, cp]) w0 S Inv step k) (d : Nat) (hd : d ≤ 4611686018427387904)
    (v0 v1 v2 v3 v4 v5 v6 v7 v8 v9 : Value) (l : List (Fun d)) (s : σ) (w : World) (hAt : Row 3 (FunAt w0 d) v2 l) (hT : TenSlices v0 v1 v3 v4 v5 v6 v7 v8 v9) (hb : Below w0.heap.size w0 w) (hs : Inv s w) (hS2 : ∀ k, S k → k < w.heap.size) :
    Calls Tryz.prog 33 #[.agg #[v0, v1, v2, v3, v4, v5, v6, v7, v8, v9], .func (.func 76) #[] #[cp]] w fun e w' =>
      Kp S w w' ∧ ((∃ s', goF step d l s = some s' ∧ e = .returned (.tuple #[]) ∧ Inv s' w') ∨ (goF step d l s = none ∧ e = .panicked (gave k))) := by
  have hlen := hAt.1
  obtain ⟨o, cap2, hv⟩ := Row.len hAt
  have hx := Row.some hAt
  subst hv
  obtain ⟨⟨o0, m0, c0, rfl⟩, ⟨o1, m1, c1, rfl⟩, ⟨o3, m3, c3, rfl⟩, ⟨o4, m4, c4, rfl⟩, ⟨o5, m5, c5, rfl⟩, ⟨o6, m6, c6, rfl⟩, ⟨o7, m7, c7, rfl⟩, ⟨o8, m8, c8, rfl⟩, ⟨o9, m9, c9, rfl⟩⟩ := hT
  obtain ⟨R, hR⟩ : ∃ R, R = goF step d l s := ⟨_, rfl⟩
  rw [← hR]
  have HR : Hid (R = goF step d (l.drop 0) s) := hR
  have HX := hideM hx
  clear hx hAt hR
  generalize hn : l.length = n at *
  have HWk := hideM (pWalkA cp w0 S hS Inv hI step k see d)
  have HI := hideM hI
  have HS := hideM hS
  have HS2 := hideM hS2
  have HB := hideM hb
  have Hs := hideM hs
  clear see hI hS hb hs hS2
  go_enter Tryz.func33, Tryz.ntmps33
  go_wp2_with fail
  go_loopw [9] (fun i wr => ∃ (j : Nat) (sj : σ), j ≤ n ∧ i = .int .i64 j ∧ Hid (R = goF step d (l.drop j) sj) ∧ Hid (Kp S w wr) ∧ Hid (Inv sj wr)) (fun i _ => n - (intOf i).toNat)
  case atStart => exact ⟨0, s, by omega, rfl, HR, (Kp.refl S w).alloc _, HI.out _ _ _ ((Below.refl _ w).alloc (Nat.le_refl _) _) Hs.out⟩
  case round =>
    obtain ⟨j, sj, hj, rfl, HK, HKP, HSJ⟩ := hrel
    by_cases hgo : j < n
    · obtain ⟨b, off, cap3, hv2, hx⟩ := HX.out (by omega)
      injection hv2 with ho h2 h3
      subst ho
      obtain ⟨x, hxk⟩ : ∃ x, l[j]? = some x := ⟨_, List.getElem?_eq_getElem (by omega)⟩
      have hbr := Kp.below HS.out HB.out HKP.out
      have hx' := (hx j x hxk).on hbr
      have c0 := hx'.type
      obtain ⟨lv, c1, a1⟩ := hx'.locals
      obtain ⟨bv', c2', a2⟩ := (hx j x hxk).body
      have c2 := cell_on hbr c2'
      have HN := hideM (HK.out.trans (goF_on hxk))
      obtain ⟨lo, lc, rfl⟩ := Row.len a1
      obtain ⟨bo, bc, rfl⟩ := At.len d bv' x.body a2
      generalize hnb : size d x.body = nb at *
      generalize hnl : x.locals.length = nl at *
      have A2 := hideM a2
      clear hx' h2 h3 HX a1 a2 hxk hnb hnl hbr hx c2' HK
      go_upto_region 4 with fail
      obtain ⟨wa, hwa⟩ : ∃ wa, wa = wr.alloc (Obj.cells #[.int .i64 x.type, .slice lo nl lc, .slice bo nb bc] 44) := ⟨_, rfl⟩
      rw [← hwa]
      have hsz : wa.heap.size = wr.heap.size + 1 := by rw [hwa]; exact size_alloc _ _
      have n2 : wa.cell? ⟨wr.heap.size, 2, none⟩ = some (.slice bo nb bc) := by rw [hwa]; exact new_cell _ _ _ _ _ rfl
      have hka : Hid (Kp S w wa) := by rw [hwa]; exact HKP.out.alloc _
      have hra : Below wr.heap.size wr wa := by rw [hwa]; exact (Below.refl _ wr).alloc (Nat.le_refl _) _
      have HRA := hideM hra
      clear hwa hra c0 c1 c2
      go_wp2_with fail
      refine (HWk.out _ x.body 0 sj wa A2.out (Kp.below HS.out HB.out hka.out) (HI.out _ _ _ HRA.out HSJ.out) (fun q hq => Nat.lt_of_lt_of_le (HS2.out q hq) hka.out.size) (by omega)).mono ?_
      rintro e u ⟨hk1, hcase⟩
      have hku := hideM (hka.out.trans hk1)
      clear hk1
      rcases hcase with ⟨s1, e1, rfl, i1⟩ | ⟨e1, rfl⟩
      · have HF : Hid (R = goF step d (l.drop (j + 1)) s1) := by
          have := HN.out; rw [e1, Option.bind_some] at this; exact this
        have I1 := hideM i1
        clear i1 e1
        go_wp2
        go_roundw
        case rel => exact ⟨j + 1, s1, by omega, by go_num, HF, hku, I1⟩
        case measure => simp [intOf]; omega
      · have HF : R = none := by
          have := HN.out; rw [e1, Option.bind_none] at this; exact this
        go_wp2
        exact ⟨rfl, hku.out, .inr ⟨HF, rfl⟩⟩
    · have HE : R = some sj := HK.out.trans (goF_end (by omega))
      have HEE := hideM HE
      clear HE HK
      go_wp2
      go_end0
      exact ⟨HKP.out, .inl ⟨sj, HEE.out, rfl, HSJ.out⟩⟩
end Go.Proofs.YtloelineidlenaaGreatDoor
